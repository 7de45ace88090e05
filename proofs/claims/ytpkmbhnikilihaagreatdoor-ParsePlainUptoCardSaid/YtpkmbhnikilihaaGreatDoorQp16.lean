/- The tokens of a plain value may stand, each of them; how much they are. -/
import Derived.Test.YtpkmbhnikilihaaGreatDoorQp15
import Derived.Lib.ItoaLen
namespace Go.Proofs.YtpkmbhnikilihaaGreatDoor
mutual
theorem vtok_right : ∀ v : VT, fitV nameB v = true → ∀ t ∈ vtok v, rightB (t.1, t.2.data.toList) = true
 | .mk k n s l m, hf, t, ht => by
   rw [fitV, Bool.and_eq_true, Bool.and_eq_true] at hf
   obtain ⟨⟨hs, hl⟩, hm⟩ := hf
   rcases sound_kind hs with rfl | rfl | rfl | rfl | rfl | rfl | rfl | rfl | rfl
   · rw [vtok0, List.mem_singleton] at ht
     subst ht
     decide +kernel
   · rw [vtok1, List.mem_singleton] at ht
     subst ht
     show rightB (2, (if n = 1 then trueT else falseT).data.toList) = true
     split <;> decide +kernel
   · rw [vtok2, List.mem_singleton] at ht
     subst ht
     show decide (kindL (itoaT n).data.toList = 3) = true
     have : (itoaT n).data.toList = Lib.itoa n := by simp [itoaT]
     rw [this, kind_itoa]
     rfl
   · rw [vtok3, List.mem_singleton] at ht
     subst ht
     rcases num_cases (sound3 hs).2.1 with h | ⟨h, _⟩
     · show rightB (kindL s.data.toList, s.data.toList) = true
       rw [h]
       show decide (kindL s.data.toList = 4) = true
       rw [h]; rfl
     · show rightB (kindL s.data.toList, s.data.toList) = true
       rw [h]
       show decide (kindL s.data.toList = 3) = true
       rw [h]; rfl
   · rw [vtok4, List.mem_singleton] at ht
     subst ht
     exact (sound4 hs).2.1
   · rw [vtok5, List.mem_singleton] at ht
     subst ht
     exact (enum_cases (sound5 hs).2.1).1
   · rw [vtok6] at ht
     simp only [List.mem_cons, List.mem_append, List.not_mem_nil, or_false] at ht
     rcases ht with rfl | ht | rfl
     · decide +kernel
     · exact vtokL_right l hl t ht
     · decide +kernel
   · rw [vtok7] at ht
     simp only [List.mem_cons, List.mem_append, List.not_mem_nil, or_false] at ht
     rcases ht with rfl | ht | rfl
     · decide +kernel
     · exact vtokM_right m hm t ht
     · decide +kernel
   · rw [vtok8] at ht
     simp only [List.mem_cons, List.not_mem_nil, or_false] at ht
     rcases ht with rfl | rfl
     · decide +kernel
     · exact (sound8 hs).2.1
theorem vtokL_right : ∀ l : VL, fitL nameB l = true → ∀ t ∈ vtokL l, rightB (t.1, t.2.data.toList) = true
 | .nil, _, t, ht => by rw [vtokL] at ht; simp at ht
 | .cons v r, hf, t, ht => by
   rw [fitL, Bool.and_eq_true] at hf
   rw [vtokL, List.mem_append] at ht
   rcases ht with ht | ht
   · exact vtok_right v hf.1 t ht
   · exact vtokL_right r hf.2 t ht
theorem vtokM_right : ∀ l : VM, fitM nameB l = true → ∀ t ∈ vtokM l, rightB (t.1, t.2.data.toList) = true
 | .nil, _, t, ht => by rw [vtokM] at ht; simp at ht
 | .cons nm v r, hf, t, ht => by
   rw [fitM, Bool.and_eq_true, Bool.and_eq_true] at hf
   rw [vtokM] at ht
   simp only [List.mem_cons, List.mem_append] at ht
   rcases ht with rfl | rfl | ht | ht
   · exact hf.1.1
   · decide +kernel
   · exact vtok_right v hf.1.2 t ht
   · exact vtokM_right r hf.2 t ht
end
theorem itoa_size {n : Int} (h : -9223372036854775808 ≤ n ∧ n ≤ 9223372036854775807) : (itoaT n).size ≤ 21 := by
 have := Lib.itoa_length_le n h.1 h.2
 show (itoaT n).data.size ≤ 21
 simpa [itoaT] using this
theorem sumT_one (k : Int) (s : ByteArray) : sumT [(k, s)] = 1 + s.size := by simp [sumT]
mutual
theorem vtok_sum : ∀ v : VT, RngV v → sumT (vtok v) + 3 ≤ 26 * sizeV v ∧ ∀ t ∈ vtok v, t.2.size ≤ 21 + sizeV v
 | .mk k n s l m, hr => by
   unfold RngV at hr
   have hL := vtokL_sum l hr.2.1
   have hM := vtokM_sum m hr.2.2
   have hi := itoa_size hr.1
   have hc : nullT.size = 4 ∧ trueT.size = 4 ∧ falseT.size = 5 ∧ openT.size = 1 ∧ shutT.size = 1 ∧ openM.size = 1 ∧ shutM.size = 1 ∧ dollarT.size = 1 := ⟨rfl, rfl, rfl, rfl, rfl, rfl, rfl, rfl⟩
   obtain ⟨q0, q1, q2, q3, q4, q5, q6, q7⟩ := hc
   have hz : sizeV (.mk k n s l m) = 1 + s.size + sizeL l + sizeM m := by rw [sizeV]
   rw [hz, vtok]
   by_cases h0 : k = 0
   · rw [if_pos h0]; exact ⟨by rw [sumT_one]; omega, fun t ht => by rw [List.mem_singleton] at ht; subst ht; show nullT.size ≤ _; omega⟩
   rw [if_neg h0]
   by_cases h1 : k = 1
   · rw [if_pos h1]
     by_cases hn : n = 1
     · rw [if_pos hn]; exact ⟨by rw [sumT_one]; omega, fun t ht => by rw [List.mem_singleton] at ht; subst ht; show trueT.size ≤ _; omega⟩
     · rw [if_neg hn]; exact ⟨by rw [sumT_one]; omega, fun t ht => by rw [List.mem_singleton] at ht; subst ht; show falseT.size ≤ _; omega⟩
   rw [if_neg h1]
   by_cases h2 : k = 2
   · rw [if_pos h2]; exact ⟨by rw [sumT_one]; omega, fun t ht => by rw [List.mem_singleton] at ht; subst ht; show (itoaT n).size ≤ _; omega⟩
   rw [if_neg h2]
   by_cases h3 : k = 3
   · rw [if_pos h3]; exact ⟨by rw [sumT_one]; omega, fun t ht => by rw [List.mem_singleton] at ht; subst ht; show s.size ≤ _; omega⟩
   rw [if_neg h3]
   by_cases h4 : k = 4
   · rw [if_pos h4]; exact ⟨by rw [sumT_one]; omega, fun t ht => by rw [List.mem_singleton] at ht; subst ht; show s.size ≤ _; omega⟩
   rw [if_neg h4]
   by_cases h5 : k = 5
   · rw [if_pos h5]; exact ⟨by rw [sumT_one]; omega, fun t ht => by rw [List.mem_singleton] at ht; subst ht; show s.size ≤ _; omega⟩
   rw [if_neg h5]
   by_cases h6 : k = 6
   · rw [if_pos h6]
     refine ⟨?_, fun t ht => ?_⟩
     · rw [show (((1 : Int), openT) :: (vtokL l ++ [((1 : Int), shutT)])) = [((1 : Int), openT)] ++ (vtokL l ++ [((1 : Int), shutT)]) from rfl, sumT_append, sumT_append, sumT_one, sumT_one]; omega
     · simp only [List.mem_cons, List.mem_append, List.not_mem_nil, or_false] at ht
       rcases ht with rfl | ht | rfl
       · show openT.size ≤ _; omega
       · have := hL.2 t ht; omega
       · show shutT.size ≤ _; omega
   rw [if_neg h6]
   by_cases h7 : k = 7
   · rw [if_pos h7]
     refine ⟨?_, fun t ht => ?_⟩
     · rw [show (((1 : Int), openM) :: (vtokM m ++ [((1 : Int), shutM)])) = [((1 : Int), openM)] ++ (vtokM m ++ [((1 : Int), shutM)]) from rfl, sumT_append, sumT_append, sumT_one, sumT_one]; omega
     · simp only [List.mem_cons, List.mem_append, List.not_mem_nil, or_false] at ht
       rcases ht with rfl | ht | rfl
       · show openM.size ≤ _; omega
       · have := hM.2 t ht; omega
       · show shutM.size ≤ _; omega
   rw [if_neg h7]
   by_cases h8 : k = 8
   · rw [if_pos h8]
     refine ⟨by simp only [sumT]; omega, fun t ht => ?_⟩
     simp only [List.mem_cons, List.not_mem_nil, or_false] at ht
     rcases ht with rfl | rfl
     · show dollarT.size ≤ _; omega
     · show s.size ≤ _; omega
   rw [if_neg h8]
   exact ⟨by simp only [sumT]; omega, fun t ht => by simp at ht⟩
theorem vtokL_sum : ∀ l : VL, RngL l → sumT (vtokL l) ≤ 26 * sizeL l ∧ ∀ t ∈ vtokL l, t.2.size ≤ 21 + sizeL l
 | .nil, _ => by rw [vtokL, sizeL]; exact ⟨by simp [sumT], fun t ht => by simp at ht⟩
 | .cons v r, hr => by
   unfold RngL at hr
   have h1 := vtok_sum v hr.1
   have h2 := vtokL_sum r hr.2
   rw [vtokL, sizeL, sumT_append]
   refine ⟨by omega, fun t ht => ?_⟩
   rcases List.mem_append.1 ht with ht | ht
   · have := h1.2 t ht; omega
   · have := h2.2 t ht; omega
theorem vtokM_sum : ∀ l : VM, RngM l → sumT (vtokM l) ≤ 26 * sizeM l ∧ ∀ t ∈ vtokM l, t.2.size ≤ 21 + sizeM l
 | .nil, _ => by rw [vtokM, sizeM]; exact ⟨by simp [sumT], fun t ht => by simp at ht⟩
 | .cons nm v r, hr => by
   unfold RngM at hr
   have h1 := vtok_sum v hr.1
   have h2 := vtokM_sum r hr.2
   have hc : colonT.size = 1 := rfl
   rw [vtokM, sizeM]
   refine ⟨?_, fun t ht => ?_⟩
   · rw [show ((2, nm) :: (1, colonT) :: (vtok v ++ vtokM r)) = [((2 : Int), nm), ((1 : Int), colonT)] ++ (vtok v ++ vtokM r) from rfl, sumT_append, sumT_append]
     simp only [sumT]
     omega
   · simp only [List.mem_cons, List.mem_append] at ht
     rcases ht with rfl | rfl | ht | ht
     · show nm.size ≤ _; omega
     · show colonT.size ≤ _; omega
     · have := h1.2 t ht; omega
     · have := h2.2 t ht; omega
end
open Go.RowKit
theorem foldN_len : ∀ (l out : List ByteArray), out.length ≤ (l.foldl addN out).length
 | [], _ => Nat.le_refl _
 | a :: l, out => by
   rw [List.foldl_cons]
   refine Nat.le_trans ?_ (foldN_len l (addN out a))
   unfold addN
   split
   · exact Nat.le_refl _
   · simp
theorem vars_none {v : VT} (h : allV v = []) : (varsV v []).length = 0 := by unfold varsV; rw [h]; rfl
theorem vars_some {v : VT} (h : allV v ≠ []) : 0 < (varsV v []).length := by
 unfold varsV
 cases hv : allV v with
 | nil => exact absurd hv h
 | cons a l =>
   rw [List.foldl_cons]
   refine Nat.lt_of_lt_of_le ?_ (foldN_len l (addN [] a))
   unfold addN hasN
   simp
theorem tokB_bare (ts : List Tok) : tokB (bareT ts) = ts := by
 unfold tokB bareT
 rw [List.map_map]
 conv => rhs; rw [← List.map_id ts]
 apply List.map_congr_left
 intro t _
 rfl
theorem whole_plain {v : VT} (hp : plainB v = true) (hr : RngV v) {l : List UInt8} (hS : readS l = (bareT (vtok v), 0)) (fx : Bool) : wholeA (valD fx 0) l = if fx = true ∧ allV v ≠ [] then .error 2 else .ok v := by
 unfold plainB at hp
 rw [Bool.and_eq_true] at hp
 have hd : depV v ≤ 16 := by simpa using hp.2
 have h := vread fx v 0 [] hp.1 hr (by omega)
 rw [List.append_nil] at h
 rw [whole_of hS, tokB_bare, h]
 unfold ans
 by_cases hc : fx = true ∧ allV v ≠ []
 · rw [if_pos hc, if_pos hc]
 · rw [if_neg hc, if_neg hc]; rfl
theorem whole_free {v : VT} (hp : plainB v = true) (hr : RngV v) {l : List UInt8} (hS : readS l = (bareT (vtok v), 0)) : wholeA (valD false 0) l = .ok v := by
 rw [whole_plain hp hr hS, if_neg (by simp)]
theorem whole_no {v : VT} (hp : plainB v = true) (hr : RngV v) {l : List UInt8} (hS : readS l = (bareT (vtok v), 0)) (h : allV v ≠ []) : wholeA (valD true 0) l = .error 2 := by
 rw [whole_plain hp hr hS, if_pos ⟨rfl, h⟩]
theorem whole_yes {v : VT} (hp : plainB v = true) (hr : RngV v) {l : List UInt8} (hS : readS l = (bareT (vtok v), 0)) (h : allV v = []) : wholeA (valD true 0) l = .ok v := by
 rw [whole_plain hp hr hS, if_neg (by simp [h])]
theorem res_val {w w' : World} {v : VT} {zero cs : List Value} {x : Int} (h : Res encV zero w w' (.ok v) x cs) : x = 0 ∧ ∃ c0 c1 c2 c3 c4, cs = [c0, c1, c2, c3, c4] ∧ VAt w' w'.heap.size v c0 c1 c2 c3 c4 := by
 obtain ⟨h0, h1⟩ := h
 obtain ⟨c0, c1, c2, c3, c4, e, hv⟩ := ts_vp _ _ h1
 exact ⟨h0, c0, c1, c2, c3, c4, e, VP.at (fun b hb => hb.2) _ _ _ _ _ _ hv⟩
theorem undrew {w w2 : World} (h : Below w.drew.heap.size w.drew w2) : Below w.heap.size w w2 := (Below.drew (Below.refl _ _)).trans h
theorem box_after {base : Nat} {w w2 w5 : World} {V V' : Value} {ts : List (Int × ByteArray)} {b o : Obj} {i : Nat} {x : Value} (hT : TR base w V ts) (hb : Below (w.alloc b).heap.size (w.alloc b) w2) (g5 : Grew (w2.alloc o) w5 V V') (hc : (w.alloc b).cell? ⟨w.heap.size, i, none⟩ = some x) : w5.cell? ⟨w.heap.size, i, none⟩ = some x := by
 have hs : (w.alloc b).heap.size = w.heap.size + 1 := by simp
 have h2 := hb.size
 have hc2 : (w2.alloc o).cell? ⟨w.heap.size, i, none⟩ = some x := ((hb.trans ((als w2 o).mono h2)).cell (p := ⟨w.heap.size, i, none⟩) (by rw [hs]; exact Nat.lt_succ_self _)).trans hc
 exact g5.cell (by simp; omega) (fun e => by have := (hT.lt w.heap.size e).2; omega) hc2
theorem box_call {w w2 : World} {b : Obj} {i : Nat} {x : Value} (hb : Below (w.alloc b).heap.size (w.alloc b) w2) (hc : (w.alloc b).cell? ⟨w.heap.size, i, none⟩ = some x) : w2.cell? ⟨w.heap.size, i, none⟩ = some x :=
 (hb.cell (p := ⟨w.heap.size, i, none⟩) (by simp)).trans hc
set_option maxRecDepth 100000 in
set_option maxHeartbeats 4000000 in
theorem write_num (n : Int) (s : ByteArray) (l : VL) (m : VM) : WriteC (.mk 3 n s l m) := by
 intro c0 c1 c2 c3 c4 w base V ts hB hv hT hlen hz hK hfit hrng
 have hs9 : s.size ≤ 1100000 := by rw [sizeV] at hz; omega
 have hlen2 : ts.length + 4 ≤ 20000000 := by rw [sizeV] at hlen; omega
 unfold VAt at hv
 obtain ⟨rfl, rfl, rfl, _, ⟨A, c, rfl, hl, hL⟩, A', c', rfl, hm, hM⟩ := hv
 have HB := Hd hB
 have HT := Hd hT
 have HS := Hd hlen2
 have h1 := Hd (als w (.cells #[.int .i64 3, .int .i64 n, .string s, .slice A l.len c, .slice A' m.len c'] 35))
 have hc : (w.alloc (.cells #[.int .i64 3, .int .i64 n, .string s, .slice A l.len c, .slice A' m.len c'] 35)).cell? ⟨w.heap.size, 2, none⟩ = some (.string s) := by rw [World.cell?_alloc_at _ _ _ _ rfl]; rfl
 have HC := Hd hc
 have hN := vnumberf_any s
 obtain ⟨k, hk⟩ : ∃ k, kindL s.data.toList = k := ⟨_, rfl⟩
 have htk : Hid (vtok (.mk 3 n s l m) = [(k, s)]) := Hd (by rw [vtok3, hk])
 rw [hk] at hN
 have HN := fun wx => Hd (hN wx hs9)
 clear hL hM hB hT hK hlen hlen2 hfit hrng hN hk hc hz
 go_enter Tryz.func57, Tryz.ntmps57
 go_wp2_with fail
 go_region_held3 (fun w' => w'.cell? ⟨w.heap.size, 2, none⟩ = some (.string s))
  (first
   | exact HC.out
   | exact box_call hb2 HC.out
   | exact box_after HT.out hb2 g5 HC.out
   | go_keep)
  ((first
   | (go_at_call 135; refine (HN _).out.mono ?_; rintro e w2 ⟨rfl, hb2'⟩; have hb2 := undrew hb2')
   | (refine step_append_tok (by rfl) _ _ (by rfl) base _ ts (by rfl) ((HT.out.low (tbl h1.out hb2)).low (als _ _)) w2.heap.size 1 1 [(k, s)] (by rfl) (by rfl) (tok_new1 _ _ _ _ rfl) (by omega) (by have := HS.out; omega) (Nat.le_trans HB.out (Nat.le_trans (tbl h1.out hb2).size (als _ _).size)) ?_; intro v5 w5 h5 g5)))
 have H5 := Hd h5
 have G5 := Hd ((Grew.of_below (tbl (tbl h1.out hb2) (als _ _))).trans g5)
 clear h5 g5 hb2 hb2'
 go_wp2_with fail
 go_ret
 exact write_said htk.out H5.out G5.out
set_option maxRecDepth 100000 in
set_option maxHeartbeats 4000000 in
theorem write_var (n : Int) (s : ByteArray) (l : VL) (m : VM) : WriteC (.mk 8 n s l m) := by
 intro c0 c1 c2 c3 c4 w base V ts hB hv hT hlen hz hK hfit hrng
 have hlen2 : ts.length + 4 ≤ 20000000 := by rw [sizeV] at hlen; omega
 unfold VAt at hv
 obtain ⟨rfl, rfl, rfl, _, ⟨A, c, rfl, hl, hL⟩, A', c', rfl, hm, hM⟩ := hv
 have HB := Hd hB
 have HT := Hd hT
 have HS := Hd hlen2
 have h1 := Hd (als w (.cells #[.int .i64 8, .int .i64 n, .string s, .slice A l.len c, .slice A' m.len c'] 35))
 have hc : (w.alloc (.cells #[.int .i64 8, .int .i64 n, .string s, .slice A l.len c, .slice A' m.len c'] 35)).cell? ⟨w.heap.size, 2, none⟩ = some (.string s) := by rw [World.cell?_alloc_at _ _ _ _ rfl]; rfl
 have HC := Hd hc
 have htk : Hid (vtok (.mk 8 n s l m) = [(1, dollarT), (2, s)]) := Hd (vtok8 _ _ _ _)
 clear hL hM hB hT hK hlen hlen2 hfit hrng hc hz
 go_enter Tryz.func57, Tryz.ntmps57
 go_wp2_with fail
 go_region_held3 (fun w' => w'.cell? ⟨w.heap.size, 2, none⟩ = some (.string s))
  (first
   | exact HC.out
   | exact box_call (undrew hbp) HC.out
   | exact box_call (undrew hbw) HC.out
   | exact box_call (tbl (undrew hbp) hbw) HC.out
   | exact box_call (tbl (undrew hbw) hbp) HC.out
   | exact box_after HT.out (tbl (undrew hbp) hbw) g5 HC.out
   | exact box_after HT.out (tbl (undrew hbw) hbp) g5 HC.out
   | go_keep)
  ((first
   | (go_at_call 136; refine (vpunct_any _ _).mono ?_; rintro e wp ⟨rfl, hbp⟩)
   | (go_at_call 132; refine (vword_any _ _).mono ?_; rintro e ww ⟨rfl, hbw⟩)
   | (refine step_append_tok (by rfl) _ _ (by rfl) base _ ts (by rfl) ((HT.out.low (by first | exact tbl h1.out (tbl (undrew hbp) hbw) | exact tbl h1.out (tbl (undrew hbw) hbp))).low (als _ _)) _ 2 2 [(1, dollarT), (2, s)] (by rfl) (by rfl) (tok_new2 _ _ _ _ _ _ rfl) (by omega) (by have := HS.out; omega) (Nat.le_trans HB.out (Nat.le_trans (by first | exact (tbl h1.out (tbl (undrew hbp) hbw)).size | exact (tbl h1.out (tbl (undrew hbw) hbp)).size) (als _ _).size)) ?_; intro v5 w5 h5 g5)))
 all_goals
  have H5 := Hd h5
  have G5 : Hid (Grew w w5 V v5) := Hd (by first | exact (Grew.of_below (tbl (tbl h1.out (tbl (undrew hbp) hbw)) (als _ _))).trans g5 | exact (Grew.of_below (tbl (tbl h1.out (tbl (undrew hbw) hbp)) (als _ _))).trans g5)
  clear h5 g5 hbp hbw
  go_wp2_with fail
  go_ret
  exact write_said htk.out H5.out G5.out
theorem vtokL_snoc : ∀ (l : VL) (v : VT), vtokL (l.snoc v) = vtokL l ++ vtok v
 | .nil, v => by rw [VL.snoc, vtokL, vtokL]; simp [vtokL]
 | .cons u t, v => by rw [VL.snoc, vtokL, vtokL, vtokL_snoc t v, List.append_assoc]
theorem vtokM_snoc : ∀ (l : VM) (nm : ByteArray) (v : VT), vtokM (l.snoc nm v) = vtokM l ++ (2, nm) :: (1, colonT) :: vtok v
 | .nil, nm, v => by rw [VM.snoc, vtokM, vtokM]; simp [vtokM]
 | .cons x u t, nm, v => by rw [VM.snoc, vtokM, vtokM, vtokM_snoc t nm v]; simp
theorem sizeL_snoc : ∀ (l : VL) (v : VT), sizeL (l.snoc v) = sizeL l + sizeV v
 | .nil, v => by simp only [VL.snoc, sizeL]; omega
 | .cons u t, v => by rw [VL.snoc, sizeL, sizeL, sizeL_snoc t v]; omega
theorem sizeM_snoc : ∀ (l : VM) (nm : ByteArray) (v : VT), sizeM (l.snoc nm v) = sizeM l + nm.size + sizeV v
 | .nil, nm, v => by simp only [VM.snoc, sizeM]; omega
 | .cons x u t, nm, v => by rw [VM.snoc, sizeM, sizeM, sizeM_snoc t nm v]; omega
theorem sizeL_take : ∀ (l : VL) (j : Nat), sizeL (l.take j) ≤ sizeL l
 | l, 0 => by rw [VL.take_zero, sizeL]; omega
 | .nil, j + 1 => by rw [VL.take]; exact Nat.le_refl _
 | .cons v t, j + 1 => by rw [VL.take, sizeL, sizeL]; have := sizeL_take t j; omega
theorem sizeM_take : ∀ (l : VM) (j : Nat), sizeM (l.take j) ≤ sizeM l
 | l, 0 => by rw [VM.take_zero, sizeM]; omega
 | .nil, j + 1 => by rw [VM.take]; exact Nat.le_refl _
 | .cons nm v t, j + 1 => by rw [VM.take, sizeM, sizeM]; have := sizeM_take t j; omega
theorem roomL {l : VL} {j : Nat} {v : VT} (h : l.get j = some v) : (vtokL (l.take j)).length + 4 * sizeV v ≤ 4 * sizeL l := by
 have h1 := sizeL_take l (j + 1)
 rw [VL.take_next h, sizeL_snoc] at h1
 have := vtokL_len (l.take j)
 omega
theorem roomM {l : VM} {j : Nat} {nm : ByteArray} {v : VT} (h : l.get j = some (nm, v)) : (vtokM (l.take j)).length + 4 * sizeV v ≤ 4 * sizeM l := by
 have h1 := sizeM_take l (j + 1)
 rw [VM.take_next h, sizeM_snoc] at h1
 have := vtokM_len (l.take j)
 omega
theorem fitL_get {p : List UInt8 → Bool} : ∀ {l : VL} {j : Nat} {v : VT}, fitL p l = true → l.get j = some v → fitV p v = true
 | .nil, _, _, _, h => by simp [VL.get] at h
 | .cons u t, 0, v, hf, h => by
   have : u = v := by simpa [VL.get] using h
   subst this
   rw [fitL, Bool.and_eq_true] at hf
   exact hf.1
 | .cons u t, j + 1, v, hf, h => by
   rw [fitL, Bool.and_eq_true] at hf
   exact fitL_get (l := t) hf.2 h
theorem fitM_get {p : List UInt8 → Bool} : ∀ {l : VM} {j : Nat} {nm : ByteArray} {v : VT}, fitM p l = true → l.get j = some (nm, v) → fitV p v = true
 | .nil, _, _, _, _, h => by simp [VM.get] at h
 | .cons x u t, 0, nm, v, hf, h => by
   have : x = nm ∧ u = v := by simpa [VM.get] using h
   obtain ⟨rfl, rfl⟩ := this
   rw [fitM, Bool.and_eq_true, Bool.and_eq_true] at hf
   exact hf.1.2
 | .cons x u t, j + 1, nm, v, hf, h => by
   rw [fitM, Bool.and_eq_true, Bool.and_eq_true] at hf
   exact fitM_get (l := t) hf.2 h
theorem rngL_get : ∀ {l : VL} {j : Nat} {v : VT}, RngL l → l.get j = some v → RngV v
 | .nil, _, _, _, h => by simp [VL.get] at h
 | .cons u t, 0, v, hf, h => by
   have : u = v := by simpa [VL.get] using h
   subst this
   unfold RngL at hf
   exact hf.1
 | .cons u t, j + 1, v, hf, h => by
   unfold RngL at hf
   exact rngL_get (l := t) hf.2 h
theorem rngM_get : ∀ {l : VM} {j : Nat} {nm : ByteArray} {v : VT}, RngM l → l.get j = some (nm, v) → RngV v
 | .nil, _, _, _, _, h => by simp [VM.get] at h
 | .cons x u t, 0, nm, v, hf, h => by
   have : x = nm ∧ u = v := by simpa [VM.get] using h
   obtain ⟨rfl, rfl⟩ := this
   unfold RngM at hf
   exact hf.1
 | .cons x u t, j + 1, nm, v, hf, h => by
   unfold RngM at hf
   exact rngM_get (l := t) hf.2 h
set_option maxRecDepth 100000 in
set_option maxHeartbeats 8000000 in
theorem write_list (N : Nat) (H : ∀ u, sizeV u ≤ N → WriteC u) (n : Int) (s : ByteArray) (l : VL) (m : VM) (hN : sizeV (.mk 6 n s l m) ≤ N + 1) : WriteC (.mk 6 n s l m) := by
 intro c0 c1 c2 c3 c4 w base V ts hB hv hT hlen hz hK hfit hrng
 have hN' : sizeL l ≤ N := by rw [sizeV] at hN; omega
 have hz' : sizeL l ≤ 1100000 := by rw [sizeV] at hz; omega
 have hlen2 : ts.length + 4 + 4 * sizeL l ≤ 20000000 := by rw [sizeV] at hlen; omega
 rw [fitV, Bool.and_eq_true, Bool.and_eq_true] at hfit
 unfold RngV at hrng
 have hff := Hd hfit.1.2
 have hrr := Hd hrng.2.1
 unfold VAt at hv
 obtain ⟨rfl, rfl, rfl, _, ⟨A, c, rfl, hl, hL⟩, A', c', rfl, hm, hM⟩ := hv
 have HB := Hd hB
 have HT := Hd hT
 have HS := Hd hlen2
 have HH := Hd H
 have HL := Hd hL
 have HK := Hd hK
 have HN := Hd hN'
 have HZ := Hd hz'
 have h1 := Hd (als w (.cells #[.int .i64 6, .int .i64 n, .string s, .slice A l.len c, .slice A' m.len c'] 35))
 have hc : (w.alloc (.cells #[.int .i64 6, .int .i64 n, .string s, .slice A l.len c, .slice A' m.len c'] 35)).cell? ⟨w.heap.size, 3, none⟩ = some (.slice A l.len c) := by rw [World.cell?_alloc_at _ _ _ _ rfl]; rfl
 have HC := Hd hc
 have htk : Hid (vtok (.mk 6 n s l m) = (1, openT) :: (vtokL l ++ [(1, shutT)])) := Hd (vtok6 _ _ _ _)
 clear hM hB hT hK hlen hlen2 hfit hrng hc hz hN hL H hz' hN'
 go_enter Tryz.func57, Tryz.ntmps57
 go_wp2_with fail
 refine (vpunct_any _ _).mono ?_
 rintro e w2 ⟨rfl, hb2⟩
 have hc2 := Hd (box_call hb2 HC.out)
 have B2' := Hd hb2
 have B2 := Hd (tbl h1.out hb2)
 clear hb2
 go_wp2_with (at_builtin; refine wpList_append_tok rfl _ _ rfl base _ ts rfl ((HT.out.low B2.out).low (als _ _)) _ _ _ [(1, openT)] rfl rfl (tok_new1 _ _ _ _ (by first | rfl | (simp; done))) (by omega) (by have := HS.out; omega) (Nat.le_trans HB.out (Nat.le_trans B2.out.size (als _ _).size)) ?_; intro v5 w5 h5 g5; have H5 := Hd h5; have G5 := Hd ((Grew.of_below (tbl B2.out (als _ _))).trans g5); have hc5 := box_after HT.out B2'.out g5 HC.out; clear h5 g5)
 go_loopg [0, 79] l.len (fun g vq i wx => ∃ q : Nat, q + g = l.len ∧ i = .int .i64 q ∧ Aside (TR base wx vq (ts ++ (1, openT) :: vtokL (l.take q)) ∧ Grew w wx V vq))
 case atStart => exact ⟨0, by omega, rfl, vaside ⟨by rw [VL.take_zero, vtokL]; exact H5.out, G5.out⟩⟩
 case round =>
  obtain ⟨q, hq, rfl, HA⟩ := hrel
  have HTq := Hd HA.1
  have HGq := Hd HA.2
  have hwr := HA.2.1.size
  have HBq := Hd (HA.2.base HT.out HB.out)
  clear HA H5 G5 hc5
  cases gk with
  | zero =>
    obtain rfl : q = l.len := by omega
    have hT2 := HTq.out
    rw [VL.take_all] at hT2
    have HT2 := Hd hT2
    have hll := Hd (vtokL_len l)
    clear hT2 HTq
    go_wp2_with fail
    refine (vpunct_any _ _).mono ?_
    rintro e w6 ⟨rfl, hb6⟩
    have B6 := Hd hb6
    clear hb6
    go_wp2_with (at_builtin; refine wpList_append_tok rfl _ _ rfl base _ _ rfl ((HT2.out.low B6.out).low (als _ _)) _ _ _ [(1, shutT)] rfl rfl (tok_new1 _ _ _ _ (by first | rfl | (simp; done))) (by omega) (by have h1 := HS.out; have h2 := hll.out; simp only [List.length_append, List.length_cons]; omega) (Nat.le_trans HB.out (Nat.le_trans hwr (Nat.le_trans B6.out.size (als _ _).size))) ?_; intro v7 w7 h7 g7; have H7 := Hd h7; have G7 := Hd (HGq.out.trans ((Grew.of_below (tbl B6.out (als _ _))).trans g7)); clear h7 g7)
    go_ret
    exact write_said htk.out (by have := H7.out; simpa using this) G7.out
  | succ g =>
    have hqn : q < l.len := by omega
    have hqn' : (q : Int) < (l.len : Int) := by omega
    obtain ⟨x, hx⟩ := VL.get_lt hqn
    have hxs := sizeL_get hx
    have hxf := fitL_get hff.out hx
    have hxr := rngL_get hrr.out hx
    have hrm := roomL hx
    have hnx := Hd (VL.take_next hx)
    obtain ⟨b, o, d0, d1, d2, d3, d4, rfl, hblt, hF, hV⟩ := LAt.at (LAt.below HBq.out _ _ _ HL.out) hx
    rw [Nat.zero_add] at hF
    have hBr := Nat.le_trans HB.out hwr
    have C := Hd (HH.out x (by have := HN.out; omega) d0 d1 d2 d3 d4)
    have hV0 := Hd hV
    obtain ⟨xk, xn, xs, xl, xm⟩ := x
    unfold VAt at hV
    obtain ⟨rfl, rfl, rfl, _, ⟨A3, c3', rfl, _, _⟩, A4, c4', rfl, _, _⟩ := hV
    obtain ⟨f0, f1, f2, f3, f4⟩ := hF
    have hnew := Hd (als wr (.cells #[.int .i64 xk, .int .i64 xn, .string xs, .slice A3 xl.len c3', .slice A4 xm.len c4'] 35))
    have HW := Hd (C.out _ base _ _ (Nat.le_trans hBr hnew.out.size) (VAt.below (hnew.out.mono hBr) _ _ _ _ _ _ hV0.out) (HTq.out.low hnew.out) (by have := HS.out; simp only [List.length_append, List.length_cons]; omega) (by have := HZ.out; omega) ((HK.out.below HBq.out).below (hnew.out.mono hBr)) hxf hxr)
    clear C hxs hxf hxr hrm hx
    go_wp2_with fail
    refine HW.out.mono ?_
    rintro e w6 ⟨V6, rfl, h6, g6⟩
    have H6 := Hd h6
    have G6 := Hd (HGq.out.trans ((Grew.of_below hnew.out).trans g6))
    clear h6 g6 f0 f1 f2 f3 f4
    go_wp2_with fail
    go_roundg g
    case measure => omega
    case rel => exact ⟨q + 1, by omega, by go_num, vaside ⟨by rw [hnx.out, vtokL_snoc]; have := H6.out; simpa using this, G6.out⟩⟩
def Mem6 (W : World) (b O : Nat) (nm d0 d1 d2 d3 d4 : Value) : Prop := W.cell? ⟨b, O, none⟩ = some nm ∧ W.cell? ⟨b, O + 1, none⟩ = some d0 ∧ W.cell? ⟨b, O + 1 + 1, none⟩ = some d1 ∧ W.cell? ⟨b, O + 1 + 2, none⟩ = some d2 ∧ W.cell? ⟨b, O + 1 + 3, none⟩ = some d3 ∧ W.cell? ⟨b, O + 1 + 4, none⟩ = some d4
theorem Mem6.next {W W' : World} {b O : Nat} {nm d0 d1 d2 d3 d4 : Value} (h : Mem6 W b O nm d0 d1 d2 d3 d4) (hb : W'.heap[b]? = W.heap[b]?) : Mem6 W' b O nm d0 d1 d2 d3 d4 :=
 ⟨(World.cell?_of_block (a := ⟨b, _, none⟩) hb).trans h.1, (World.cell?_of_block (a := ⟨b, _, none⟩) hb).trans h.2.1, (World.cell?_of_block (a := ⟨b, _, none⟩) hb).trans h.2.2.1, (World.cell?_of_block (a := ⟨b, _, none⟩) hb).trans h.2.2.2.1, (World.cell?_of_block (a := ⟨b, _, none⟩) hb).trans h.2.2.2.2.1, (World.cell?_of_block (a := ⟨b, _, none⟩) hb).trans h.2.2.2.2.2⟩
theorem six_at_new (w : World) (a a0 a1 a2 a3 a4 : Value) (t : TypeId) : Mem6 (w.alloc (.cells #[a, a0, a1, a2, a3, a4] t)) w.heap.size 0 a a0 a1 a2 a3 a4 := by
 refine ⟨?_, ?_, ?_, ?_, ?_, ?_⟩ <;> (rw [World.cell?_alloc_at _ _ _ _ rfl]; rfl)
theorem Mem6.below {w w' : World} {b O : Nat} {nm d0 d1 d2 d3 d4 : Value} (h : Mem6 w b O nm d0 d1 d2 d3 d4) (hb : Below w.heap.size w w') (hlt : b < w.heap.size) : Mem6 w' b O nm d0 d1 d2 d3 d4 := h.next (hb.block b hlt)
theorem Mem6.grew {w w' : World} {V V' : Value} {b O : Nat} {nm d0 d1 d2 d3 d4 : Value} (h : Mem6 w b O nm d0 d1 d2 d3 d4) (hg : Grew w w' V V') (hlt : b < w.heap.size) (hV : V.ownBlock ≠ some b) : Mem6 w' b O nm d0 d1 d2 d3 d4 := h.next (hg.1.block b hlt (fun e => hV e.symm))
theorem mem_call {w w2 : World} {nm d0 d1 d2 d3 d4 : Value} {t : TypeId} (hb : Below (w.alloc (.cells #[nm, d0, d1, d2, d3, d4] t)).heap.size (w.alloc (.cells #[nm, d0, d1, d2, d3, d4] t)) w2) : Mem6 w2 w.heap.size 0 nm d0 d1 d2 d3 d4 :=
 (six_at_new w nm d0 d1 d2 d3 d4 t).below hb (by simp)
theorem mem_after {base : Nat} {w w2 w5 : World} {V V' : Value} {ts : List (Int × ByteArray)} {nm d0 d1 d2 d3 d4 : Value} {t : TypeId} {o : Obj} (hT : TR base w V ts) (hb : Below (w.alloc (.cells #[nm, d0, d1, d2, d3, d4] t)).heap.size (w.alloc (.cells #[nm, d0, d1, d2, d3, d4] t)) w2) (g5 : Grew (w2.alloc o) w5 V V') : Mem6 w5 w.heap.size 0 nm d0 d1 d2 d3 d4 := by
 have hs : (w.alloc (.cells #[nm, d0, d1, d2, d3, d4] t)).heap.size = w.heap.size + 1 := by simp
 have h2 := hb.size
 have h3 := (mem_call hb).below (als w2 o) (by omega)
 exact h3.grew g5 (by simp; omega) (fun e => by have := (hT.lt w.heap.size e).2; omega)
theorem mem_write {base : Nat} {w w2 w5 w6 : World} {V V' V'' : Value} {ts : List (Int × ByteArray)} {nm d0 d1 d2 d3 d4 : Value} {t : TypeId} {o : Obj} (hT : TR base w V ts) (hb : Below (w.alloc (.cells #[nm, d0, d1, d2, d3, d4] t)).heap.size (w.alloc (.cells #[nm, d0, d1, d2, d3, d4] t)) w2) (g5 : Grew (w2.alloc o) w5 V V') (g6 : Grew w5 w6 V' V'') : Mem6 w6 w.heap.size 0 nm d0 d1 d2 d3 d4 := by
 have hs : (w.alloc (.cells #[nm, d0, d1, d2, d3, d4] t)).heap.size = w.heap.size + 1 := by simp
 have h2 := hb.size
 have h5 := g5.1.size
 have h6 : (w2.alloc o).heap.size = w2.heap.size + 1 := by simp
 refine (mem_after hT hb g5).grew g6 (by omega) (fun e => ?_)
 rcases g5.2 w.heap.size e with h | h
 · have := (hT.lt w.heap.size h).2; omega
 · omega
set_option maxRecDepth 100000 in
set_option maxHeartbeats 8000000 in
theorem write_map (N : Nat) (H : ∀ u, sizeV u ≤ N → WriteC u) (n : Int) (s : ByteArray) (l : VL) (m : VM) (hN : sizeV (.mk 7 n s l m) ≤ N + 1) : WriteC (.mk 7 n s l m) := by
 intro c0 c1 c2 c3 c4 w base V ts hB hv hT hlen hz hK hfit hrng
 have hN' : sizeM m ≤ N := by rw [sizeV] at hN; omega
 have hz' : sizeM m ≤ 1100000 := by rw [sizeV] at hz; omega
 have hlen2 : ts.length + 4 + 4 * sizeM m ≤ 20000000 := by rw [sizeV] at hlen; omega
 rw [fitV, Bool.and_eq_true, Bool.and_eq_true] at hfit
 unfold RngV at hrng
 have hff := Hd hfit.2
 have hrr := Hd hrng.2.2
 unfold VAt at hv
 obtain ⟨rfl, rfl, rfl, _, ⟨A, c, rfl, hl, hL⟩, A', c', rfl, hm, hM⟩ := hv
 have HB := Hd hB
 have HT := Hd hT
 have HS := Hd hlen2
 have HH := Hd H
 have HM := Hd hM
 have HK := Hd hK
 have HN := Hd hN'
 have HZ := Hd hz'
 have h1 := Hd (als w (.cells #[.int .i64 7, .int .i64 n, .string s, .slice A l.len c, .slice A' m.len c'] 35))
 have hc : (w.alloc (.cells #[.int .i64 7, .int .i64 n, .string s, .slice A l.len c, .slice A' m.len c'] 35)).cell? ⟨w.heap.size, 4, none⟩ = some (.slice A' m.len c') := by rw [World.cell?_alloc_at _ _ _ _ rfl]; rfl
 have HC := Hd hc
 have htk : Hid (vtok (.mk 7 n s l m) = (1, openM) :: (vtokM m ++ [(1, shutM)])) := Hd (vtok7 _ _ _ _)
 clear hL hB hT hK hlen hlen2 hfit hrng hc hz hN hM H hz' hN'
 go_enter Tryz.func57, Tryz.ntmps57
 go_wp2_with fail
 refine (vpunct_any _ _).mono ?_
 rintro e w2 ⟨rfl, hb2⟩
 have hc2 := Hd (box_call hb2 HC.out)
 have B2' := Hd hb2
 have B2 := Hd (tbl h1.out hb2)
 clear hb2
 go_wp2_with (at_builtin; refine wpList_append_tok rfl _ _ rfl base _ ts rfl ((HT.out.low B2.out).low (als _ _)) _ _ _ [(1, openM)] rfl rfl (tok_new1 _ _ _ _ (by first | rfl | (simp; done))) (by omega) (by have := HS.out; omega) (Nat.le_trans HB.out (Nat.le_trans B2.out.size (als _ _).size)) ?_; intro v5 w5 h5 g5; have H5 := Hd h5; have G5 := Hd ((Grew.of_below (tbl B2.out (als _ _))).trans g5); have hc5 := box_after HT.out B2'.out g5 HC.out; clear h5 g5)
 go_loopg [0, 100] m.len (fun g vq i wx => ∃ q : Nat, q + g = m.len ∧ i = .int .i64 q ∧ Aside (TR base wx vq (ts ++ (1, openM) :: vtokM (m.take q)) ∧ Grew w wx V vq))
 case atStart => exact ⟨0, by omega, rfl, vaside ⟨by rw [VM.take_zero, vtokM]; exact H5.out, G5.out⟩⟩
 case round =>
  obtain ⟨q, hq, rfl, HA⟩ := hrel
  rename_i vq _
  have HTq := Hd HA.1
  have HGq := Hd HA.2
  have hwr := HA.2.1.size
  have HBq := Hd (HA.2.base HT.out HB.out)
  clear HA H5 G5 hc5
  cases gk with
  | zero =>
    obtain rfl : q = m.len := by omega
    have hT2 := HTq.out
    rw [VM.take_all] at hT2
    have HT2 := Hd hT2
    have hll := Hd (vtokM_len m)
    clear hT2 HTq
    go_wp2_with fail
    refine (vpunct_any _ _).mono ?_
    rintro e w6 ⟨rfl, hb6⟩
    have B6 := Hd hb6
    clear hb6
    go_wp2_with (at_builtin; refine wpList_append_tok rfl _ _ rfl base _ _ rfl ((HT2.out.low B6.out).low (als _ _)) _ _ _ [(1, shutM)] rfl rfl (tok_new1 _ _ _ _ (by first | rfl | (simp; done))) (by omega) (by have h1 := HS.out; have h2 := hll.out; simp only [List.length_append, List.length_cons]; omega) (Nat.le_trans HB.out (Nat.le_trans hwr (Nat.le_trans B6.out.size (als _ _).size))) ?_; intro v7 w7 h7 g7; have H7 := Hd h7; have G7 := Hd (HGq.out.trans ((Grew.of_below (tbl B6.out (als _ _))).trans g7)); clear h7 g7)
    go_ret
    exact write_said htk.out (by have := H7.out; simpa using this) G7.out
  | succ g =>
    have hqn : q < m.len := by omega
    have hqn' : (q : Int) < (m.len : Int) := by omega
    obtain ⟨⟨nm, x⟩, hx⟩ := VM.get_lt hqn
    have hxs := (name_size hx).2
    have hxf := fitM_get hff.out hx
    have hxr := rngM_get hrr.out hx
    have hrm := roomM hx
    have hnx := Hd (VM.take_next hx)
    obtain ⟨b, o, d0, d1, d2, d3, d4, rfl, hblt, hnm, _, hF, hV⟩ := MAt.at (MAt.below HBq.out _ _ _ HM.out) hx
    rw [Nat.zero_add] at hF hnm
    have hBr := Nat.le_trans HB.out hwr
    have C := Hd (HH.out x (by have := HN.out; omega) d0 d1 d2 d3 d4)
    have hV0 := Hd hV
    obtain ⟨xk, xn, xs, xl, xm⟩ := x
    unfold VAt at hV
    obtain ⟨rfl, rfl, rfl, _, ⟨A3, c3', rfl, _, _⟩, A4, c4', rfl, _, _⟩ := hV
    obtain ⟨f0, f1, f2, f3, f4⟩ := hF
    have hnew := Hd (als wr (.cells #[.string nm, .int .i64 xk, .int .i64 xn, .string xs, .slice A3 xl.len c3', .slice A4 xm.len c4'] 98))
    have hroom : Hid ((ts ++ (1, openM) :: vtokM (m.take q)).length + 2 + 4 * sizeV (.mk xk xn xs xl xm) ≤ 20000000) := Hd (by have := HS.out; simp only [List.length_append, List.length_cons]; omega)
    have HW := fun (w5 : World) (v5 : Value) (h5 : TR base w5 v5 ((ts ++ (1, openM) :: vtokM (m.take q)) ++ [(2, nm), (1, colonT)])) (hb5 : Below base wr w5) => Hd (C.out w5 base v5 _ (Nat.le_trans hBr hb5.size) (VAt.below hb5 _ _ _ _ _ _ hV0.out) h5 (by have := hroom.out; simp only [List.length_append, List.length_cons, List.length_nil] at this ⊢; omega) (by have := HZ.out; omega) ((HK.out.below HBq.out).below hb5) hxf hxr)
    have HX := Hd (six_at_new wr (.string nm) (.int .i64 xk) (.int .i64 xn) (.string xs) (.slice A3 xl.len c3') (.slice A4 xm.len c4') 98)
    clear C hxs hxf hxr hrm hx
    go_wp2_with fail
    go_region_held3 (fun w' => w'.cell? ⟨wr.heap.size, 0, none⟩ = some (.string nm) ∧ w'.cell? ⟨wr.heap.size, 1, none⟩ = some (.int .i64 xk) ∧ w'.cell? ⟨wr.heap.size, 2, none⟩ = some (.int .i64 xn) ∧ w'.cell? ⟨wr.heap.size, 3, none⟩ = some (.string xs) ∧ w'.cell? ⟨wr.heap.size, 4, none⟩ = some (.slice A3 xl.len c3') ∧ w'.cell? ⟨wr.heap.size, 5, none⟩ = some (.slice A4 xm.len c4'))
     (first
      | exact HX.out
      | exact mem_call (undrew hbp)
      | exact mem_call (undrew hbw)
      | exact mem_call (tbl (undrew hbp) hbw)
      | exact mem_call (tbl (undrew hbw) hbp)
      | exact mem_after HTq.out (tbl (undrew hbp) hbw) g5
      | exact mem_after HTq.out (tbl (undrew hbw) hbp) g5
      | exact mem_write HTq.out (tbl (undrew hbp) hbw) g5 g6
      | exact mem_write HTq.out (tbl (undrew hbw) hbp) g5 g6
      | go_keep)
     ((first
      | (go_at_call 136; refine (vpunct_any _ _).mono ?_; rintro e wp ⟨rfl, hbp⟩)
      | (go_at_call 132; refine (vword_any _ _).mono ?_; rintro e ww ⟨rfl, hbw⟩)
      | (go_at_call 57; refine (HW _ _ h5 (by first | exact (Grew.base ((Grew.of_below (tbl (tbl hnew.out (tbl (undrew hbp) hbw)) (als _ _))).trans g5) HTq.out hBr) | exact (Grew.base ((Grew.of_below (tbl (tbl hnew.out (tbl (undrew hbw) hbp)) (als _ _))).trans g5) HTq.out hBr))).out.mono ?_; rintro e w6 ⟨V6, rfl, h6, g6⟩)
      | (refine step_append_tok (by rfl) _ _ (by rfl) base _ _ (by rfl) ((HTq.out.low (by first | exact tbl hnew.out (tbl (undrew hbp) hbw) | exact tbl hnew.out (tbl (undrew hbw) hbp))).low (als _ _)) _ 2 2 [(2, nm), (1, colonT)] (by rfl) (by rfl) (tok_new2 _ _ _ _ _ _ rfl) (by omega) (by have := hroom.out; omega) (Nat.le_trans hBr (Nat.le_trans (by first | exact (tbl hnew.out (tbl (undrew hbp) hbw)).size | exact (tbl hnew.out (tbl (undrew hbw) hbp)).size) (als _ _).size)) ?_; intro v5 w5 h5 g5)))
    all_goals
     have H6 := Hd h6
     have G6 : Hid (Grew w w6 V V6) := Hd (by first | exact HGq.out.trans (((Grew.of_below (tbl (tbl hnew.out (tbl (undrew hbp) hbw)) (als _ _))).trans g5).trans g6) | exact HGq.out.trans (((Grew.of_below (tbl (tbl hnew.out (tbl (undrew hbw) hbp)) (als _ _))).trans g5).trans g6))
     clear h5 g5 h6 g6 hbp hbw HW f0 f1 f2 f3 f4
     go_wp2_with fail
     go_roundg g
     case measure => omega
     case rel => exact ⟨q + 1, by omega, by go_num, vaside ⟨by rw [hnx.out, vtokM_snoc]; have := H6.out; simpa using this, G6.out⟩⟩
mutual
theorem VAt.more {w : World} {B B' : Nat} (hb : B ≤ B') : ∀ (v : VT) (c0 c1 c2 c3 c4 : Value), VAt w B v c0 c1 c2 c3 c4 → VAt w B' v c0 c1 c2 c3 c4
 | .mk k n s l m, c0, c1, c2, c3, c4, h => by
   unfold VAt at h ⊢
   obtain ⟨h0, h1, h2, hs, ⟨A, c, h3, g3, h4⟩, A', c', h5, g5, h6⟩ := h
   exact ⟨h0, h1, h2, hs, ⟨A, c, h3, g3, LAt.more hb l A 0 h4⟩, A', c', h5, g5, MAt.more hb m A' 0 h6⟩
theorem LAt.more {w : World} {B B' : Nat} (hb : B ≤ B') : ∀ (l : VL) (A : Option Addr) (j : Nat), LAt w B l A j → LAt w B' l A j
 | .nil, _, _, _ => by unfold LAt; trivial
 | .cons v t, A, j, h => by
   unfold LAt at h ⊢
   obtain ⟨⟨b, o, c0, c1, c2, c3, c4, hA, hlt, hf, hv⟩, ht⟩ := h
   exact ⟨⟨b, o, c0, c1, c2, c3, c4, hA, Nat.lt_of_lt_of_le hlt hb, hf, VAt.more hb v _ _ _ _ _ hv⟩, LAt.more hb t A (j + 1) ht⟩
theorem MAt.more {w : World} {B B' : Nat} (hb : B ≤ B') : ∀ (l : VM) (A : Option Addr) (j : Nat), MAt w B l A j → MAt w B' l A j
 | .nil, _, _, _ => by unfold MAt; trivial
 | .cons nm v t, A, j, h => by
   unfold MAt at h ⊢
   obtain ⟨⟨b, o, c0, c1, c2, c3, c4, hA, hlt, hn, hz, hf, hv⟩, ht⟩ := h
   exact ⟨⟨b, o, c0, c1, c2, c3, c4, hA, Nat.lt_of_lt_of_le hlt hb, hn, hz, hf, VAt.more hb v _ _ _ _ _ hv⟩, MAt.more hb t A (j + 1) ht⟩
end
theorem write_step (N : Nat) (H : ∀ u, sizeV u ≤ N → WriteC u) : ∀ u, sizeV u ≤ N + 1 → WriteC u := by
 intro u hu
 obtain ⟨k, n, s, l, m⟩ := u
 intro c0 c1 c2 c3 c4 w base V ts hB hv hT hlen hz hK hfit hrng
 have hf := hfit
 rw [fitV, Bool.and_eq_true, Bool.and_eq_true] at hf
 rcases sound_kind hf.1.1 with rfl | rfl | rfl | rfl | rfl | rfl | rfl | rfl | rfl
 · exact write_null n s l m c0 c1 c2 c3 c4 w base V ts hB hv hT hlen hz hK hfit hrng
 · exact write_bool n s l m c0 c1 c2 c3 c4 w base V ts hB hv hT hlen hz hK hfit hrng
 · exact write_int n s l m c0 c1 c2 c3 c4 w base V ts hB hv hT hlen hz hK hfit hrng
 · exact write_num n s l m c0 c1 c2 c3 c4 w base V ts hB hv hT hlen hz hK hfit hrng
 · exact write_text n s l m c0 c1 c2 c3 c4 w base V ts hB hv hT hlen hz hK hfit hrng
 · exact write_enum n s l m c0 c1 c2 c3 c4 w base V ts hB hv hT hlen hz hK hfit hrng
 · exact write_list N H n s l m hu c0 c1 c2 c3 c4 w base V ts hB hv hT hlen hz hK hfit hrng
 · exact write_map N H n s l m hu c0 c1 c2 c3 c4 w base V ts hB hv hT hlen hz hK hfit hrng
 · exact write_var n s l m c0 c1 c2 c3 c4 w base V ts hB hv hT hlen hz hK hfit hrng
theorem write_all : ∀ N u, sizeV u ≤ N → WriteC u
 | 0, u, h => by have := sizeV_pos u; omega
 | N + 1, u, h => write_step N (write_all N) u h
def toksV (v : VT) : List (Int × ByteArray) := if plainB v = true then vtok v else []
theorem toks_said {w w' : World} {v : VT} {V : Value} {b : Bool} {ts : List (Int × ByteArray)} (hb : plainB v = b) (hk : toksV v = ts) (h : TR w.heap.size w' V ts) (hw : Below w.heap.size w w') : ∃ V', Ending.returned (.tuple #[V, .bool b]) = .returned (.tuple #[V', .bool (plainB v)]) ∧ TR w.heap.size w' V' (toksV v) ∧ Below w.heap.size w w' :=
 ⟨V, by rw [hb], by rw [hk]; exact h, hw⟩
set_option maxRecDepth 100000 in
theorem tokens_any (v : VT) (hz : sizeV v ≤ 1100000) (hr : RngV v) (c0 c1 c2 c3 c4 : Value) (w : World) (B : Nat) (hB : B ≤ w.heap.size) (hv : VAt w B v c0 c1 c2 c3 c4) (hw : Laid5 w) :
   Calls Tryz.prog 22 #[.agg #[c0, c1, c2, c3, c4]] w fun e w' => ∃ V', e = .returned (.tuple #[V', .bool (plainB v)]) ∧ TR w.heap.size w' V' (toksV v) ∧ Below w.heap.size w w' := by
 have hWr := write_all _ v (Nat.le_refl _)
 obtain ⟨k, n, s, l, m⟩ := v
 generalize hU : VT.mk k n s l m = U at *
 have HV := Hd hv
 rw [← hU] at hv
 unfold VAt at hv
 obtain ⟨rfl, rfl, rfl, _, ⟨A, c, rfl, hl, hL⟩, A', c', rfl, hm, hM⟩ := hv
 have hb1 := Hd (als w (.cells #[.int .i64 k, .int .i64 n, .string s, .slice A l.len c, .slice A' m.len c'] 35))
 have HF := Hd (vplain_any U hz _ _ _ _ _ _ B (Nat.le_trans hB hb1.out.size) (VAt.below (hb1.out.mono hB) _ _ _ _ _ _ HV.out) (hw.below hb1.out))
 have HWR := Hd hWr
 have HB0 := Hd hB
 have HZ := Hd hz
 have HR := Hd hr
 have HW := Hd hw
 have hF5 := Hd (five_at_new w (.int .i64 k) (.int .i64 n) (.string s) (.slice A l.len c) (.slice A' m.len c') 35 rfl)
 have hsw : Hid ((w.alloc (.cells #[.int .i64 k, .int .i64 n, .string s, .slice A l.len c, .slice A' m.len c'] 35)).heap.size = w.heap.size + 1) := Hd (by simp)
 clear hL hM hU hw hz hB hWr hr
 cases hf : plainB U with
 | false =>
   have hk : Hid (toksV U = []) := Hd (by unfold toksV; rw [hf]; simp)
   have hpb := Hd hf
   rw [hf] at HF
   clear hf
   go_enter Tryz.func22, Tryz.ntmps22
   go_wp2_with fail
   refine HF.out.mono ?_
   rintro e w2 ⟨rfl, hb2⟩
   have HB2 := Hd (hb1.out.trans (hb2.mono hb1.out.size))
   clear hb2
   go_wp2_with fail
   go_ret2
   rw [← hpb.out]
   exact toks_said rfl hk.out (TR.nil _ _) HB2.out
 | true =>
   have hk : Hid (toksV U = vtok U) := Hd (by unfold toksV; rw [hf]; simp)
   have hpb := Hd hf
   have hfit : Hid (fitV nameB U = true) := Hd (by unfold plainB at hf; rw [Bool.and_eq_true] at hf; exact hf.1)
   rw [hf] at HF
   clear hf
   go_enter Tryz.func22, Tryz.ntmps22
   go_wp2_with fail
   refine HF.out.mono ?_
   rintro e w2 ⟨rfl, hb2⟩
   have hb3 := hb1.out.trans (hb2.mono hb1.out.size)
   have HB2 := Hd hb3
   have hs2 := hb3.size
   obtain ⟨e0, e1, e2, e3, e4⟩ := hF5.out.below hb2 (by rw [hsw.out]; omega)
   clear hb2 hb3
   go_wp2_with fail
   refine (HWR.out _ _ _ _ _ w2 w.heap.size _ [] hs2 (VAt.more HB0.out _ _ _ _ _ _ (VAt.below (HB2.out.mono HB0.out) _ _ _ _ _ _ HV.out)) (TR.nil _ _) (by have := HZ.out; simp only [List.length_nil]; omega) HZ.out ⟨w, HW.out, Nat.le_refl _, HB2.out⟩ hfit.out HR.out).mono ?_
   rintro e w3 ⟨V3, rfl, h3, g3⟩
   have H3 := Hd h3
   have HB3 := Hd (HB2.out.trans (g3.base (TR.nil w.heap.size w2) hs2))
   clear h3 g3 e0 e1 e2 e3 e4
   go_wp2_with fail
   go_ret2
   rw [← hpb.out]
   exact toks_said rfl hk.out (by have := H3.out; rwa [List.nil_append] at this) HB3.out
theorem TR.at {base : Nat} {w : World} {V : Value} {ts : List (Int × ByteArray)} (h : TR base w V ts) (hn : ts ≠ []) : ∃ g c, V = .slice (some ⟨g, 0, none⟩) ts.length c ∧ base ≤ g ∧ g < w.heap.size ∧ ∀ i u, (cellsT ts)[i]? = some u → w.cell? ⟨g, i, none⟩ = some u := by
 have h' := h
 unfold TR at h
 rcases h.2 with ⟨_, h0⟩ | ⟨g, cap, cur, hV, hb, hg, hcap, hm, hsz, htk⟩
 · exact absurd (List.eq_nil_of_length_eq_zero h0) hn
 · subst hV
   refine ⟨g, cap, rfl, hb, (h.lt g rfl).2, fun i u hi => ?_⟩
   have hil := (List.getElem?_eq_some_iff.1 hi).1
   rw [cellsT_len] at hil
   rw [World.ownsRow.cellAt h i hil, hi]
end Go.Proofs.YtpkmbhnikilihaaGreatDoor
namespace Go.Proofs.YtpkmbhnikilihaaGreatDoor.LVReads
open Go.RowKit
theorem W64_small {n : Nat} (h : n ≤ 1048576) : W64 n = (n : Int) := by
 unfold W64
 simp only [IntKind.wrap_i64]
 omega
theorem cellsT_at : ∀ (ts : List (Int × ByteArray)) (j : Nat) t, ts[j]? = some t → (cellsT ts)[j * 2]? = some (.int .i64 t.1) ∧ (cellsT ts)[j * 2 + 1]? = some (.string t.2)
 | [], _, _, h => by simp at h
 | u :: ts, 0, t, h => by
   have : u = t := by simpa using h
   subst this
   exact ⟨rfl, rfl⟩
 | u :: ts, j + 1, t, h => by
   obtain ⟨h0, h1⟩ := cellsT_at ts j t (by simpa using h)
   refine ⟨?_, ?_⟩
   · rw [show (j + 1) * 2 = j * 2 + 2 by omega]; simpa [cellsT] using h0
   · rw [show (j + 1) * 2 + 1 = (j * 2 + 1) + 2 by omega]; simpa [cellsT] using h1
theorem row_ts {base : Nat} {w : World} {V : Value} {ts : List (Int × ByteArray)} (h : TR base w V ts) : ∃ A c, V = .slice A ts.length c ∧ TsAt w w.heap.size A ts.length ts := by
 cases ts with
 | nil =>
   obtain ⟨A, c, rfl⟩ := shape_own h
   exact ⟨A, c, rfl, rfl, fun j t ht => by simp at ht⟩
 | cons u us =>
   obtain ⟨g, c, rfl, _, hlt, hc⟩ := h.at (by simp)
   refine ⟨_, c, rfl, rfl, fun j t ht => ?_⟩
   obtain ⟨h0, h1⟩ := cellsT_at _ j t ht
   exact ⟨g, 0, rfl, hlt, by rw [Nat.zero_add]; exact hc _ _ h0, by rw [Nat.zero_add]; exact hc _ _ h1⟩
theorem all_right {ts : List (Int × ByteArray)} (h : ∀ t ∈ ts, rightB (t.1, t.2.data.toList) = true) : (bareT ts).all rightB = true := by
 rw [List.all_eq_true]
 intro t ht
 unfold bareT at ht
 obtain ⟨u, hu, rfl⟩ := List.mem_map.1 ht
 exact h u hu
end Go.Proofs.YtpkmbhnikilihaaGreatDoor.LVReads
namespace Go.Proofs.YtpkmbhnikilihaaGreatDoor
open Go.RowKit
def RowX (w : World) (lo B : Nat) (l : VL) (A : Option Addr) : Prop := ∀ (j : Nat) v, l.get j = some v → ∃ b o c0 c1 c2 c3 c4, A = some ⟨b, o, none⟩ ∧ (b < B ∨ lo ≤ b) ∧ b < w.heap.size ∧ Five w b (o + j * 5) c0 c1 c2 c3 c4 ∧ VAt w B v c0 c1 c2 c3 c4
theorem RowX.of_list {w : World} {lo B : Nat} {l : VL} {A : Option Addr} (hB : B ≤ w.heap.size) (h : LAt w B l A 0) : RowX w lo B l A := fun j v hv => by
 obtain ⟨b, o, c0, c1, c2, c3, c4, hA, hlt, hf, hV⟩ := LAt.at h hv
 rw [Nat.zero_add] at hf
 exact ⟨b, o, c0, c1, c2, c3, c4, hA, .inl hlt, Nat.lt_of_lt_of_le hlt hB, hf, hV⟩
theorem RB.rowx {base n G B lo : Nat} {l : VL} {w : World} (h : RB base n G B l w n) (hl : l.len = n) (hG : lo ≤ G := by omega) : RowX w lo B l (some ⟨G, 0, none⟩) := by
 intro j v hj
 obtain ⟨b, o, c0, c1, c2, c3, c4, hA, hlt, hf, hV⟩ := RB.row h hl j v hj
 refine ⟨b, o, c0, c1, c2, c3, c4, hA, .inr ?_, hlt, hf, hV⟩
 injection hA with e
 injection e with e
 omega
def WithinX (v : VT) : Prop := ∀ (c0 c1 c2 c3 c4 : Value) (w : World) (B : Nat), B ≤ w.heap.size → VAt w B v c0 c1 c2 c3 c4 →
 Calls Tryz.prog 67 #[.agg #[c0, c1, c2, c3, c4]] w fun e w' => ∃ A c, e = .returned (.slice A v.kids.len c) ∧ RowX w' w.heap.size B v.kids A ∧ Below w.heap.size w w'
theorem withinx_said {w' w : World} {lo B : Nat} {v : VT} {l : VL} {A : Option Addr} {c : Nat} (hk : v.kids = l) (hr : RowX w' lo B l A) (hb : Below w.heap.size w w') : ∃ A' c', Ending.returned (.slice A l.len c) = .returned (.slice A' v.kids.len c') ∧ RowX w' lo B v.kids A' ∧ Below w.heap.size w w' :=
 ⟨A, c, by rw [hk], by rw [hk]; exact hr, hb⟩
set_option maxRecDepth 100000 in
set_option maxHeartbeats 4000000 in
theorem within_x (v : VT) (hz : sizeV v ≤ 9000) : WithinX v := by
 intro c0 c1 c2 c3 c4 w B hB hv
 obtain ⟨k, n, s, l, m⟩ := v
 have hml : m.len ≤ 9000 := by rw [sizeV] at hz; have := lenM_le m; omega
 unfold VAt at hv
 obtain ⟨rfl, rfl, rfl, _, ⟨A, c, rfl, hl, hL⟩, A', c', rfl, hm, hM⟩ := hv
 have hb0 : Below w.heap.size w (w.alloc (.cells #[.int .i64 k, .int .i64 n, .string s, .slice A l.len c, .slice A' m.len c'] 35)) := (Below.refl _ _).alloc (Nat.le_refl _) _
 have HB := Hd hb0
 have HB0 := Hd hB
 have HL := Hd hL
 have HM := Hd hM
 clear hL hM hB hb0 hz
 by_cases k6 : k = 6
 · subst k6
   go_enter Tryz.func67, Tryz.ntmps67
   go_wp2_with fail
   go_ret
   exact withinx_said (kids_list _ _ _ _) (RowX.of_list (Nat.le_trans HB0.out HB.out.size) (LAt.below (HB.out.mono HB0.out) _ _ _ HL.out)) HB.out
 · by_cases k7 : k = 7
   · subst k7
     obtain ⟨i0, hi, hz0, hz1, hz2⟩ := info_parts info_val
     clear k6
     go_enter Tryz.func67, Tryz.ntmps67
     have hbox4 : Hid ((w.alloc (.cells #[.int .i64 7, .int .i64 n, .string s, .slice A l.len c, .slice A' m.len c'] 35)).cell? ⟨w.heap.size, 4, none⟩ = some (.slice A' m.len c')) := Hd (by rw [World.cell?_alloc_at _ _ _ _ rfl]; rfl)
     go_wp2_with (at_make; refine wpList_make_full _ rfl _ _ 32 rfl w.heap.size 35 i0 _ 5 Tryz.underlying32 hi hz0 hz1 .i64 .i64 _ _ m.len rfl rfl (by first | rfl | omega) (by first | rfl | omega) (by rw [hz2]; omega) (by unfold maxLen; omega) (by simp) ?_; intro w2 hown hgr; have hb2 := (Below.refl _ _).grown hgr (Nat.le_refl _) (fun k h => by cases h); have hc4 : w2.cell? ⟨w.heap.size, 4, none⟩ = some (.slice A' m.len c') := (hb2.cell (p := ⟨w.heap.size, 4, none⟩) (by simp)).trans hbox4.out; have HB2 := Hd (HB.out.trans (hb2.mono HB.out.size)); have HO := Hd hown; clear hown hgr hb2)
     have hsz : (w.alloc (.cells #[.int .i64 7, .int .i64 n, .string s, .slice A l.len c, .slice A' m.len c'] 35)).heap.size = w.heap.size + 1 := by simp
     rw [hsz] at HO
     clear hsz hc4 hbox4 HB
     go_loopg [21] m.len (fun g i wx => ∃ q : Nat, q + g = m.len ∧ i = .int .i64 q ∧ Below w.heap.size w wx ∧ Aside (RB w.heap.size m.len (w.heap.size + 1) B m.vals wx q))
     case atStart => exact ⟨0, by omega, rfl, HB2.out, vaside ⟨_, HO.out, fun j v hj => absurd hj (Nat.not_lt_zero _)⟩⟩
     case round =>
      obtain ⟨q, hq, rfl, hb, HA⟩ := hrel
      have HBB := Hd hb
      clear hb HO HB2
      cases gk with
      | zero =>
        obtain rfl : q = m.len := by omega
        go_wp2_with fail
        go_ret
        exact ⟨some ⟨w.heap.size + 1, 0, none⟩, m.len, by rw [kids_map, VM.len_vals]; rfl, by rw [kids_map]; exact RB.rowx HA (VM.len_vals m), HBB.out⟩
      | succ g =>
        have hqn : q < m.len := by omega
        have hqn' : (q : Int) < (m.len : Int) := by omega
        obtain ⟨⟨nm, v⟩, hv⟩ := VM.get_lt hqn
        obtain ⟨b, o, d0, d1, d2, d3, d4, rfl, hblt, hnm, _, hF, hV⟩ := MAt.at (MAt.below (HBB.out.mono HB0.out) _ _ _ HM.out) hv
        rw [Nat.zero_add] at hF hnm
        have hV0 := Hd hV
        have HV := Hd (VM.get_vals hv)
        obtain ⟨vk, vn, vs, vl, vm⟩ := v
        unfold VAt at hV
        obtain ⟨rfl, rfl, rfl, _, ⟨A3, c3', rfl, _, _⟩, A4, c4', rfl, _, _⟩ := hV
        obtain ⟨f0, f1, f2, f3, f4⟩ := hF
        obtain ⟨xs, hown, hfill⟩ := HA
        have hlen := hown.1
        obtain ⟨z0, hz0'⟩ : ∃ z, xs[q * 5]? = some z := ⟨_, List.getElem?_eq_getElem (by omega)⟩
        obtain ⟨z1, hz1'⟩ : ∃ z, xs[q * 5 + 1]? = some z := ⟨_, List.getElem?_eq_getElem (by omega)⟩
        obtain ⟨z2, hz2'⟩ : ∃ z, xs[q * 5 + 2]? = some z := ⟨_, List.getElem?_eq_getElem (by omega)⟩
        obtain ⟨z3, hz3'⟩ : ∃ z, xs[q * 5 + 3]? = some z := ⟨_, List.getElem?_eq_getElem (by omega)⟩
        obtain ⟨z4, hz4'⟩ : ∃ z, xs[q * 5 + 4]? = some z := ⟨_, List.getElem?_eq_getElem (by omega)⟩
        have hat := fun i u (hi : xs[i]? = some u) => (World.ownsRow.cellAt hown i (by rw [← hlen]; exact (List.getElem?_eq_some_iff.1 hi).1)).trans hi
        have y0 := hat _ _ hz0'
        have y1 := hat _ _ hz1'
        have y2 := hat _ _ hz2'
        have y3 := hat _ _ hz3'
        have y4 := hat _ _ hz4'
        have hGlt : w.heap.size + 1 < wr.heap.size := (hown.lt _ rfl).2
        have q0 := not_frozen hown (q * 5)
        have q1 := not_frozen hown (q * 5 + 1)
        have q2 := not_frozen hown (q * 5 + 2)
        have q3 := not_frozen hown (q * 5 + 3)
        have q4 := not_frozen hown (q * 5 + 4)
        have HO := Hd hown
        have HFI := Hd hfill
        have HZ := Hd (And.intro hz0' (And.intro hz1' (And.intro hz2' (And.intro hz3' hz4'))))
        clear hat hz0' hz1' hz2' hz3' hz4' hown hfill hlen hv
        go_wp2_with fail
        go_roundg g
        case measure => omega
        case rel => exact ⟨q + 1, by omega, by go_num, stored_below HBB.out (Nat.le_succ _), vaside (stored_filled HB0.out HBB.out (Nat.le_succ _) HO.out HFI.out hqn HV.out hV0.out)⟩
   · have e6 : (k == 6) = false := by simpa using k6
     have e7 : (k == 7) = false := by simpa using k7
     have hk := Hd (kids_none k n s l m k6 k7)
     clear k6 k7
     go_enter Tryz.func67, Tryz.ntmps67
     go_wp2_with fail
     go_ret
     exact withinx_said (c := 0) (A := none) hk.out (fun j v hj => by simp [VL.get] at hj) HB.out
end Go.Proofs.YtpkmbhnikilihaaGreatDoor
