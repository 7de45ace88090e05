/- The walk of value.write: the simple kinds. (gen_write.py wrote it.) -/
import Derived.Test.YtnmidlbhkjcimaaDoorZGood
namespace Go.Proofs.YtnmidlbhkjcimaaDoor
open Go.RowKit

/-- The listed variables lie below the base, and stand. -/
def KB (base : Nat) (w : World) : Prop := ∃ w0, Laid5 w0 ∧ w0.heap.size ≤ base ∧ Below w0.heap.size w0 w
theorem KB.laid {base : Nat} {w : World} (h : KB base w) : Laid5 w := by
  obtain ⟨w0, h0, _, hb⟩ := h
  exact h0.below hb
theorem KB.below {base : Nat} {w w' : World} (h : KB base w) (hb : Below base w w') : KB base w' := by
  obtain ⟨w0, h0, hl, hb0⟩ := h
  exact ⟨w0, h0, hl, hb0.trans (hb.mono hl)⟩
mutual
theorem vtok_len : ∀ v : VT, (vtok v).length + 2 ≤ 4 * sizeV v
  | .mk k n s l m => by
    have h1 := vtokL_len l
    have h2 := vtokM_len m
    rw [vtok, sizeV]
    repeat' split
    all_goals (simp only [List.length_cons, List.length_nil, List.length_append]; omega)
theorem vtokL_len : ∀ l : VL, (vtokL l).length ≤ 4 * sizeL l
  | .nil => by simp [vtokL]
  | .cons v t => by
    rw [vtokL, sizeL, List.length_append]
    have := vtok_len v
    have := vtokL_len t
    omega
theorem vtokM_len : ∀ l : VM, (vtokM l).length ≤ 4 * sizeM l
  | .nil => by simp [vtokM]
  | .cons nm v t => by
    rw [vtokM, sizeM]
    simp only [List.length_cons, List.length_append]
    have := vtok_len v
    have := vtokM_len t
    omega
end
def WriteC (v : VT) : Prop := ∀ (c0 c1 c2 c3 c4 : Value) (w : World) (base : Nat) (V : Value) (ts : List (Int × ByteArray)), base ≤ w.heap.size → VAt w base v c0 c1 c2 c3 c4 → TR base w V ts → ts.length + 4 * sizeV v ≤ 200000 → sizeV v ≤ 9000 → KB base w → fitV nameB v = true → RngV v →
  Calls Tryd.prog 21 #[V, .agg #[c0, c1, c2, c3, c4]] w fun e w' => ∃ V', e = .returned V' ∧ TR base w' V' (ts ++ vtok v) ∧ Grew w w' V V'
theorem write_said {base : Nat} {w w' : World} {v : VT} {V V' : Value} {ts new : List (Int × ByteArray)} (hk : vtok v = new) (h : TR base w' V' (ts ++ new)) (hb : Grew w w' V V') : ∃ V'', Ending.returned V' = .returned V'' ∧ TR base w' V'' (ts ++ vtok v) ∧ Grew w w' V V'' := ⟨V', rfl, by rw [hk]; exact h, hb⟩
theorem alloc_same (w : World) (o : Obj) : Below w.heap.size w (w.alloc o) := (Below.refl _ _).alloc (Nat.le_refl _) o
theorem two_below {w w2 w3 : World} (h : Below w.heap.size w w2) (h' : Below w2.heap.size w2 w3) : Below w.heap.size w w3 := h.trans (h'.mono h.size)
set_option maxRecDepth 100000 in
set_option maxHeartbeats 4000000 in
theorem write_null (n : Int) (s : ByteArray) (l : VL) (m : VM) : WriteC (.mk 0 n s l m) := by
  intro c0 c1 c2 c3 c4 w base V ts hB hv hT hlen hz hK hfit hrng
  have hs9 : s.size ≤ 9000 := by rw [sizeV] at hz; omega
  have hlen2 : ts.length + 4 ≤ 200000 := by rw [sizeV] at hlen; omega
  unfold RngV at hrng
  have hn := hrng.1
  unfold VAt at hv
  obtain ⟨rfl, rfl, rfl, _, ⟨A, c, rfl, hl, hL⟩, A', c', rfl, hm, hM⟩ := hv
  have HB := Lib.hid hB
  have HT := Lib.hid hT
  have HK := Lib.hid hK
  have HS := Lib.hid hlen2
  have HN := Lib.hid hn
  have h1 := Lib.hid (alloc_same w (.cells #[.int .i64 0, .int .i64 n, .string s, .slice A l.len c, .slice A' m.len c'] 25))
  clear hL hM hB hT hK hlen hlen2 hfit hrng hn hz
  go_enter Tryd.func21, Tryd.ntmps21
  go_wp2_with fail
  refine (vword_any _ _).mono ?_
  rintro e w2 ⟨rfl, hb2⟩
  have B2 := Lib.hid (two_below h1.out hb2)
  clear hb2
  go_wp2_with (at_builtin; refine wpList_append_tok rfl _ _ rfl base _ ts rfl ((HT.out.low B2.out).low (alloc_same _ _)) _ _ _ [(2, nullT)] rfl rfl (tok_new1 _ _ _ _ (by first | rfl | (simp; done))) (by omega) (by have := HS.out; omega) (Nat.le_trans HB.out (Nat.le_trans B2.out.size (alloc_same _ _).size)) ?_; intro v5 w5 h5 g5; have H5 := Lib.hid h5; have G5 := Lib.hid ((Grew.of_below (two_below B2.out (alloc_same _ _))).trans g5); clear h5 g5)
  go_ret
  exact write_said (vtok0 _ _ _ _) H5.out G5.out
set_option maxRecDepth 100000 in
set_option maxHeartbeats 4000000 in
theorem write_bool (n : Int) (s : ByteArray) (l : VL) (m : VM) : WriteC (.mk 1 n s l m) := by
  intro c0 c1 c2 c3 c4 w base V ts hB hv hT hlen hz hK hfit hrng
  have hs9 : s.size ≤ 9000 := by rw [sizeV] at hz; omega
  have hlen2 : ts.length + 4 ≤ 200000 := by rw [sizeV] at hlen; omega
  unfold RngV at hrng
  have hn := hrng.1
  unfold VAt at hv
  obtain ⟨rfl, rfl, rfl, _, ⟨A, c, rfl, hl, hL⟩, A', c', rfl, hm, hM⟩ := hv
  have HB := Lib.hid hB
  have HT := Lib.hid hT
  have HK := Lib.hid hK
  have HS := Lib.hid hlen2
  have HN := Lib.hid hn
  have h1 := Lib.hid (alloc_same w (.cells #[.int .i64 1, .int .i64 n, .string s, .slice A l.len c, .slice A' m.len c'] 25))
  clear hL hM hB hT hK hlen hlen2 hfit hrng hn hz
  go_enter Tryd.func21, Tryd.ntmps21
  go_wp2_with fail
  refine (vtruth_any _ _).mono ?_
  rintro e w2 ⟨rfl, hb2⟩
  have B2 := Lib.hid (two_below h1.out hb2)
  clear hb2
  go_wp2_with (at_builtin; refine wpList_append_tok rfl _ _ rfl base _ ts rfl ((HT.out.low B2.out).low (alloc_same _ _)) _ _ _ [(2, truthT n)] rfl rfl (tok_new1 _ _ _ _ (by first | rfl | (simp; done))) (by omega) (by have := HS.out; omega) (Nat.le_trans HB.out (Nat.le_trans B2.out.size (alloc_same _ _).size)) ?_; intro v5 w5 h5 g5; have H5 := Lib.hid h5; have G5 := Lib.hid ((Grew.of_below (two_below B2.out (alloc_same _ _))).trans g5); clear h5 g5)
  go_ret
  exact write_said (vtok1 _ _ _ _) H5.out G5.out
set_option maxRecDepth 100000 in
set_option maxHeartbeats 4000000 in
theorem write_int (n : Int) (s : ByteArray) (l : VL) (m : VM) : WriteC (.mk 2 n s l m) := by
  intro c0 c1 c2 c3 c4 w base V ts hB hv hT hlen hz hK hfit hrng
  have hs9 : s.size ≤ 9000 := by rw [sizeV] at hz; omega
  have hlen2 : ts.length + 4 ≤ 200000 := by rw [sizeV] at hlen; omega
  unfold RngV at hrng
  have hn := hrng.1
  unfold VAt at hv
  obtain ⟨rfl, rfl, rfl, _, ⟨A, c, rfl, hl, hL⟩, A', c', rfl, hm, hM⟩ := hv
  have HB := Lib.hid hB
  have HT := Lib.hid hT
  have HK := Lib.hid hK
  have HS := Lib.hid hlen2
  have HN := Lib.hid hn
  have h1 := Lib.hid (alloc_same w (.cells #[.int .i64 2, .int .i64 n, .string s, .slice A l.len c, .slice A' m.len c'] 25))
  clear hL hM hB hT hK hlen hlen2 hfit hrng hn hz
  go_enter Tryd.func21, Tryd.ntmps21
  go_wp2_with fail
  refine (formatInt n HN.out _ (HK.out.laid.below h1.out)).mono ?_
  rintro e w2 ⟨rfl, hb2⟩
  have B2 := Lib.hid (two_below h1.out hb2)
  clear hb2
  go_wp2_with (at_builtin; refine wpList_append_tok rfl _ _ rfl base _ ts rfl ((HT.out.low B2.out).low (alloc_same _ _)) _ _ _ [(3, itoaT n)] rfl rfl (tok_new1 _ _ _ _ (by first | rfl | (simp; done))) (by omega) (by have := HS.out; omega) (Nat.le_trans HB.out (Nat.le_trans B2.out.size (alloc_same _ _).size)) ?_; intro v5 w5 h5 g5; have H5 := Lib.hid h5; have G5 := Lib.hid ((Grew.of_below (two_below B2.out (alloc_same _ _))).trans g5); clear h5 g5)
  go_ret
  exact write_said (vtok2 _ _ _ _) H5.out G5.out
set_option maxRecDepth 100000 in
set_option maxHeartbeats 4000000 in
theorem write_text (n : Int) (s : ByteArray) (l : VL) (m : VM) : WriteC (.mk 4 n s l m) := by
  intro c0 c1 c2 c3 c4 w base V ts hB hv hT hlen hz hK hfit hrng
  have hs9 : s.size ≤ 9000 := by rw [sizeV] at hz; omega
  have hlen2 : ts.length + 4 ≤ 200000 := by rw [sizeV] at hlen; omega
  unfold RngV at hrng
  have hn := hrng.1
  unfold VAt at hv
  obtain ⟨rfl, rfl, rfl, _, ⟨A, c, rfl, hl, hL⟩, A', c', rfl, hm, hM⟩ := hv
  have HB := Lib.hid hB
  have HT := Lib.hid hT
  have HK := Lib.hid hK
  have HS := Lib.hid hlen2
  have HN := Lib.hid hn
  have h1 := Lib.hid (alloc_same w (.cells #[.int .i64 4, .int .i64 n, .string s, .slice A l.len c, .slice A' m.len c'] 25))
  clear hL hM hB hT hK hlen hlen2 hfit hrng hn hz
  go_enter Tryd.func21, Tryd.ntmps21
  go_wp2_with (at_builtin; refine wpList_append_tok rfl _ _ rfl base _ ts rfl ((HT.out.low h1.out).low (alloc_same _ _)) _ _ _ [(5, s)] rfl rfl (tok_new1 _ _ _ _ (by first | rfl | (simp; done))) (by omega) (by have := HS.out; omega) (Nat.le_trans HB.out (Nat.le_trans h1.out.size (alloc_same _ _).size)) ?_; intro v5 w5 h5 g5; have H5 := Lib.hid h5; have G5 := Lib.hid ((Grew.of_below (two_below h1.out (alloc_same _ _))).trans g5); clear h5 g5)
  go_ret
  exact write_said (vtok4 _ _ _ _) H5.out G5.out
set_option maxRecDepth 100000 in
set_option maxHeartbeats 4000000 in
theorem write_enum (n : Int) (s : ByteArray) (l : VL) (m : VM) : WriteC (.mk 5 n s l m) := by
  intro c0 c1 c2 c3 c4 w base V ts hB hv hT hlen hz hK hfit hrng
  have hs9 : s.size ≤ 9000 := by rw [sizeV] at hz; omega
  have hlen2 : ts.length + 4 ≤ 200000 := by rw [sizeV] at hlen; omega
  unfold RngV at hrng
  have hn := hrng.1
  unfold VAt at hv
  obtain ⟨rfl, rfl, rfl, _, ⟨A, c, rfl, hl, hL⟩, A', c', rfl, hm, hM⟩ := hv
  have HB := Lib.hid hB
  have HT := Lib.hid hT
  have HK := Lib.hid hK
  have HS := Lib.hid hlen2
  have HN := Lib.hid hn
  have h1 := Lib.hid (alloc_same w (.cells #[.int .i64 5, .int .i64 n, .string s, .slice A l.len c, .slice A' m.len c'] 25))
  clear hL hM hB hT hK hlen hlen2 hfit hrng hn hz
  go_enter Tryd.func21, Tryd.ntmps21
  go_wp2_with fail
  refine (vword_any _ _).mono ?_
  rintro e w2 ⟨rfl, hb2⟩
  have B2 := Lib.hid (two_below h1.out hb2)
  clear hb2
  go_wp2_with (at_builtin; refine wpList_append_tok rfl _ _ rfl base _ ts rfl ((HT.out.low B2.out).low (alloc_same _ _)) _ _ _ [(2, s)] rfl rfl (tok_new1 _ _ _ _ (by first | rfl | (simp; done))) (by omega) (by have := HS.out; omega) (Nat.le_trans HB.out (Nat.le_trans B2.out.size (alloc_same _ _).size)) ?_; intro v5 w5 h5 g5; have H5 := Lib.hid h5; have G5 := Lib.hid ((Grew.of_below (two_below B2.out (alloc_same _ _))).trans g5); clear h5 g5)
  go_ret
  exact write_said (vtok5 _ _ _ _) H5.out G5.out
end Go.Proofs.YtnmidlbhkjcimaaDoor
/- The walk of value.write: numbers and variables. -/
namespace Go.Proofs.YtnmidlbhkjcimaaDoor
open Go.RowKit

theorem undrew {w w2 : World} (h : Below w.drew.heap.size w.drew w2) : Below w.heap.size w w2 := (Below.drew (Below.refl _ _)).trans h
/-- A cell of the argument's box, behind what a call and an append have done. -/
theorem box_after {base : Nat} {w w2 w5 : World} {V V' : Value} {ts : List (Int × ByteArray)} {b o : Obj} {i : Nat} {x : Value} (hT : TR base w V ts) (hb : Below (w.alloc b).heap.size (w.alloc b) w2) (g5 : Grew (w2.alloc o) w5 V V') (hc : (w.alloc b).cell? ⟨w.heap.size, i, none⟩ = some x) : w5.cell? ⟨w.heap.size, i, none⟩ = some x := by
  have hs : (w.alloc b).heap.size = w.heap.size + 1 := by simp
  have h2 := hb.size
  have hc2 : (w2.alloc o).cell? ⟨w.heap.size, i, none⟩ = some x := ((hb.trans ((alloc_same w2 o).mono h2)).cell (p := ⟨w.heap.size, i, none⟩) (by rw [hs]; exact Nat.lt_succ_self _)).trans hc
  exact g5.cell (by simp; omega) (fun e => by have := (hT.lt w.heap.size e).2; omega) hc2
theorem box_call {w w2 : World} {b : Obj} {i : Nat} {x : Value} (hb : Below (w.alloc b).heap.size (w.alloc b) w2) (hc : (w.alloc b).cell? ⟨w.heap.size, i, none⟩ = some x) : w2.cell? ⟨w.heap.size, i, none⟩ = some x :=
  (hb.cell (p := ⟨w.heap.size, i, none⟩) (by simp)).trans hc

set_option maxRecDepth 100000 in
set_option maxHeartbeats 4000000 in
theorem write_num (n : Int) (s : ByteArray) (l : VL) (m : VM) : WriteC (.mk 3 n s l m) := by
  intro c0 c1 c2 c3 c4 w base V ts hB hv hT hlen hz hK hfit hrng
  have hs9 : s.size ≤ 9000 := by rw [sizeV] at hz; omega
  have hlen2 : ts.length + 4 ≤ 200000 := by rw [sizeV] at hlen; omega
  unfold VAt at hv
  obtain ⟨rfl, rfl, rfl, _, ⟨A, c, rfl, hl, hL⟩, A', c', rfl, hm, hM⟩ := hv
  have HB := Lib.hid hB
  have HT := Lib.hid hT
  have HS := Lib.hid hlen2
  have h1 := Lib.hid (alloc_same w (.cells #[.int .i64 3, .int .i64 n, .string s, .slice A l.len c, .slice A' m.len c'] 25))
  have hc : (w.alloc (.cells #[.int .i64 3, .int .i64 n, .string s, .slice A l.len c, .slice A' m.len c'] 25)).cell? ⟨w.heap.size, 2, none⟩ = some (.string s) := by rw [World.cell?_alloc_at _ _ _ _ rfl]; rfl
  have HC := Lib.hid hc
  have hN := vnumberf_any s
  obtain ⟨k, hk⟩ : ∃ k, kindL s.data.toList = k := ⟨_, rfl⟩
  have htk : Hid (vtok (.mk 3 n s l m) = [(k, s)]) := Lib.hid (by rw [vtok3, hk])
  rw [hk] at hN
  have HN := fun wx => Lib.hid (hN wx hs9)
  clear hL hM hB hT hK hlen hlen2 hfit hrng hN hk hc hz
  go_enter Tryd.func21, Tryd.ntmps21
  go_wp2_with fail
  go_region_held3 (fun w' => w'.cell? ⟨w.heap.size, 2, none⟩ = some (.string s))
    (first
      | exact HC.out
      | exact box_call hb2 HC.out
      | exact box_after HT.out hb2 g5 HC.out
      | go_keep)
    ((first
      | (go_at_call 38; refine (HN _).out.mono ?_; rintro e w2 ⟨rfl, hb2'⟩; have hb2 := undrew hb2')
      | (refine step_append_tok (by rfl) _ _ (by rfl) base _ ts (by rfl) ((HT.out.low (two_below h1.out hb2)).low (alloc_same _ _)) w2.heap.size 1 1 [(k, s)] (by rfl) (by rfl) (tok_new1 _ _ _ _ rfl) (by omega) (by have := HS.out; omega) (Nat.le_trans HB.out (Nat.le_trans (two_below h1.out hb2).size (alloc_same _ _).size)) ?_; intro v5 w5 h5 g5)))
  have H5 := Lib.hid h5
  have G5 := Lib.hid ((Grew.of_below (two_below (two_below h1.out hb2) (alloc_same _ _))).trans g5)
  clear h5 g5 hb2 hb2'
  go_wp2_with fail
  go_ret
  exact write_said htk.out H5.out G5.out
set_option maxRecDepth 100000 in
set_option maxHeartbeats 4000000 in
theorem write_var (n : Int) (s : ByteArray) (l : VL) (m : VM) : WriteC (.mk 8 n s l m) := by
  intro c0 c1 c2 c3 c4 w base V ts hB hv hT hlen hz hK hfit hrng
  have hlen2 : ts.length + 4 ≤ 200000 := by rw [sizeV] at hlen; omega
  unfold VAt at hv
  obtain ⟨rfl, rfl, rfl, _, ⟨A, c, rfl, hl, hL⟩, A', c', rfl, hm, hM⟩ := hv
  have HB := Lib.hid hB
  have HT := Lib.hid hT
  have HS := Lib.hid hlen2
  have h1 := Lib.hid (alloc_same w (.cells #[.int .i64 8, .int .i64 n, .string s, .slice A l.len c, .slice A' m.len c'] 25))
  have hc : (w.alloc (.cells #[.int .i64 8, .int .i64 n, .string s, .slice A l.len c, .slice A' m.len c'] 25)).cell? ⟨w.heap.size, 2, none⟩ = some (.string s) := by rw [World.cell?_alloc_at _ _ _ _ rfl]; rfl
  have HC := Lib.hid hc
  have htk : Hid (vtok (.mk 8 n s l m) = [(1, dollarT), (2, s)]) := Lib.hid (vtok8 _ _ _ _)
  clear hL hM hB hT hK hlen hlen2 hfit hrng hc hz
  go_enter Tryd.func21, Tryd.ntmps21
  go_wp2_with fail
  go_region_held3 (fun w' => w'.cell? ⟨w.heap.size, 2, none⟩ = some (.string s))
    (first
      | exact HC.out
      | exact box_call (undrew hbp) HC.out
      | exact box_call (undrew hbw) HC.out
      | exact box_call (two_below (undrew hbp) hbw) HC.out
      | exact box_call (two_below (undrew hbw) hbp) HC.out
      | exact box_after HT.out (two_below (undrew hbp) hbw) g5 HC.out
      | exact box_after HT.out (two_below (undrew hbw) hbp) g5 HC.out
      | go_keep)
    ((first
      | (go_at_call 39; refine (vpunct_any _ _).mono ?_; rintro e wp ⟨rfl, hbp⟩)
      | (go_at_call 35; refine (vword_any _ _).mono ?_; rintro e ww ⟨rfl, hbw⟩)
      | (refine step_append_tok (by rfl) _ _ (by rfl) base _ ts (by rfl) ((HT.out.low (by first | exact two_below h1.out (two_below (undrew hbp) hbw) | exact two_below h1.out (two_below (undrew hbw) hbp))).low (alloc_same _ _)) _ 2 2 [(1, dollarT), (2, s)] (by rfl) (by rfl) (tok_new2 _ _ _ _ _ _ rfl) (by omega) (by have := HS.out; omega) (Nat.le_trans HB.out (Nat.le_trans (by first | exact (two_below h1.out (two_below (undrew hbp) hbw)).size | exact (two_below h1.out (two_below (undrew hbw) hbp)).size) (alloc_same _ _).size)) ?_; intro v5 w5 h5 g5)))
  all_goals
    have H5 := Lib.hid h5
    have G5 : Hid (Grew w w5 V v5) := Lib.hid (by first | exact (Grew.of_below (two_below (two_below h1.out (two_below (undrew hbp) hbw)) (alloc_same _ _))).trans g5 | exact (Grew.of_below (two_below (two_below h1.out (two_below (undrew hbw) hbp)) (alloc_same _ _))).trans g5)
    clear h5 g5 hbp hbw
    go_wp2_with fail
    go_ret
    exact write_said htk.out H5.out G5.out
end Go.Proofs.YtnmidlbhkjcimaaDoor
/- The walk of value.write: lists and maps, and all kinds together. -/
namespace Go.Proofs.YtnmidlbhkjcimaaDoor
open Go.RowKit

theorem vtokL_snoc : ∀ (l : VL) (v : VT), vtokL (l.snoc v) = vtokL l ++ vtok v
  | .nil, v => by rw [VL.snoc, vtokL, vtokL]; simp [vtokL]
  | .cons u t, v => by rw [VL.snoc, vtokL, vtokL, vtokL_snoc t v, List.append_assoc]
theorem vtokM_snoc : ∀ (l : VM) (nm : ByteArray) (v : VT), vtokM (l.snoc nm v) = vtokM l ++ (2, nm) :: (1, colonT) :: vtok v
  | .nil, nm, v => by rw [VM.snoc, vtokM, vtokM]; simp [vtokM]
  | .cons x u t, nm, v => by rw [VM.snoc, vtokM, vtokM, vtokM_snoc t nm v]; simp
theorem sizeL_snoc : ∀ (l : VL) (v : VT), sizeL (l.snoc v) = sizeL l + sizeV v
  | .nil, v => by simp only [VL.snoc, sizeL]; omega
  | .cons u t, v => by rw [VL.snoc, sizeL, sizeL, sizeL_snoc t v]; omega
theorem sizeM_snoc : ∀ (l : VM) (nm : ByteArray) (v : VT), sizeM (l.snoc nm v) = sizeM l + nm.size + sizeV v
  | .nil, nm, v => by simp only [VM.snoc, sizeM]; omega
  | .cons x u t, nm, v => by rw [VM.snoc, sizeM, sizeM, sizeM_snoc t nm v]; omega
theorem sizeL_take : ∀ (l : VL) (j : Nat), sizeL (l.take j) ≤ sizeL l
  | l, 0 => by rw [VL.take_zero, sizeL]; omega
  | .nil, j + 1 => by rw [VL.take]; exact Nat.le_refl _
  | .cons v t, j + 1 => by rw [VL.take, sizeL, sizeL]; have := sizeL_take t j; omega
theorem sizeM_take : ∀ (l : VM) (j : Nat), sizeM (l.take j) ≤ sizeM l
  | l, 0 => by rw [VM.take_zero, sizeM]; omega
  | .nil, j + 1 => by rw [VM.take]; exact Nat.le_refl _
  | .cons nm v t, j + 1 => by rw [VM.take, sizeM, sizeM]; have := sizeM_take t j; omega
theorem roomL {l : VL} {j : Nat} {v : VT} (h : l.get j = some v) : (vtokL (l.take j)).length + 4 * sizeV v ≤ 4 * sizeL l := by
  have h1 := sizeL_take l (j + 1)
  rw [VL.take_next h, sizeL_snoc] at h1
  have := vtokL_len (l.take j)
  omega
theorem roomM {l : VM} {j : Nat} {nm : ByteArray} {v : VT} (h : l.get j = some (nm, v)) : (vtokM (l.take j)).length + 4 * sizeV v ≤ 4 * sizeM l := by
  have h1 := sizeM_take l (j + 1)
  rw [VM.take_next h, sizeM_snoc] at h1
  have := vtokM_len (l.take j)
  omega
theorem fitL_get {p : List UInt8 → Bool} : ∀ {l : VL} {j : Nat} {v : VT}, fitL p l = true → l.get j = some v → fitV p v = true
  | .nil, _, _, _, h => by simp [VL.get] at h
  | .cons u t, 0, v, hf, h => by
    have : u = v := by simpa [VL.get] using h
    subst this
    rw [fitL, Bool.and_eq_true] at hf
    exact hf.1
  | .cons u t, j + 1, v, hf, h => by
    rw [fitL, Bool.and_eq_true] at hf
    exact fitL_get (l := t) hf.2 h
theorem fitM_get {p : List UInt8 → Bool} : ∀ {l : VM} {j : Nat} {nm : ByteArray} {v : VT}, fitM p l = true → l.get j = some (nm, v) → fitV p v = true
  | .nil, _, _, _, _, h => by simp [VM.get] at h
  | .cons x u t, 0, nm, v, hf, h => by
    have : x = nm ∧ u = v := by simpa [VM.get] using h
    obtain ⟨rfl, rfl⟩ := this
    rw [fitM, Bool.and_eq_true, Bool.and_eq_true] at hf
    exact hf.1.2
  | .cons x u t, j + 1, nm, v, hf, h => by
    rw [fitM, Bool.and_eq_true, Bool.and_eq_true] at hf
    exact fitM_get (l := t) hf.2 h
theorem rngL_get : ∀ {l : VL} {j : Nat} {v : VT}, RngL l → l.get j = some v → RngV v
  | .nil, _, _, _, h => by simp [VL.get] at h
  | .cons u t, 0, v, hf, h => by
    have : u = v := by simpa [VL.get] using h
    subst this
    unfold RngL at hf
    exact hf.1
  | .cons u t, j + 1, v, hf, h => by
    unfold RngL at hf
    exact rngL_get (l := t) hf.2 h
theorem rngM_get : ∀ {l : VM} {j : Nat} {nm : ByteArray} {v : VT}, RngM l → l.get j = some (nm, v) → RngV v
  | .nil, _, _, _, _, h => by simp [VM.get] at h
  | .cons x u t, 0, nm, v, hf, h => by
    have : x = nm ∧ u = v := by simpa [VM.get] using h
    obtain ⟨rfl, rfl⟩ := this
    unfold RngM at hf
    exact hf.1
  | .cons x u t, j + 1, nm, v, hf, h => by
    unfold RngM at hf
    exact rngM_get (l := t) hf.2 h

set_option maxRecDepth 100000 in
set_option maxHeartbeats 8000000 in
theorem write_list (N : Nat) (H : ∀ u, sizeV u ≤ N → WriteC u) (n : Int) (s : ByteArray) (l : VL) (m : VM) (hN : sizeV (.mk 6 n s l m) ≤ N + 1) : WriteC (.mk 6 n s l m) := by
  intro c0 c1 c2 c3 c4 w base V ts hB hv hT hlen hz hK hfit hrng
  have hN' : sizeL l ≤ N := by rw [sizeV] at hN; omega
  have hz' : sizeL l ≤ 9000 := by rw [sizeV] at hz; omega
  have hlen2 : ts.length + 4 + 4 * sizeL l ≤ 200000 := by rw [sizeV] at hlen; omega
  rw [fitV, Bool.and_eq_true, Bool.and_eq_true] at hfit
  unfold RngV at hrng
  have hff := Lib.hid hfit.1.2
  have hrr := Lib.hid hrng.2.1
  unfold VAt at hv
  obtain ⟨rfl, rfl, rfl, _, ⟨A, c, rfl, hl, hL⟩, A', c', rfl, hm, hM⟩ := hv
  have HB := Lib.hid hB
  have HT := Lib.hid hT
  have HS := Lib.hid hlen2
  have HH := Lib.hid H
  have HL := Lib.hid hL
  have HK := Lib.hid hK
  have HN := Lib.hid hN'
  have HZ := Lib.hid hz'
  have h1 := Lib.hid (alloc_same w (.cells #[.int .i64 6, .int .i64 n, .string s, .slice A l.len c, .slice A' m.len c'] 25))
  have hc : (w.alloc (.cells #[.int .i64 6, .int .i64 n, .string s, .slice A l.len c, .slice A' m.len c'] 25)).cell? ⟨w.heap.size, 3, none⟩ = some (.slice A l.len c) := by rw [World.cell?_alloc_at _ _ _ _ rfl]; rfl
  have HC := Lib.hid hc
  have htk : Hid (vtok (.mk 6 n s l m) = (1, openT) :: (vtokL l ++ [(1, shutT)])) := Lib.hid (vtok6 _ _ _ _)
  clear hM hB hT hK hlen hlen2 hfit hrng hc hz hN hL H hz' hN'
  go_enter Tryd.func21, Tryd.ntmps21
  go_wp2_with fail
  refine (vpunct_any _ _).mono ?_
  rintro e w2 ⟨rfl, hb2⟩
  have hc2 := Lib.hid (box_call hb2 HC.out)
  have B2' := Lib.hid hb2
  have B2 := Lib.hid (two_below h1.out hb2)
  clear hb2
  go_wp2_with (at_builtin; refine wpList_append_tok rfl _ _ rfl base _ ts rfl ((HT.out.low B2.out).low (alloc_same _ _)) _ _ _ [(1, openT)] rfl rfl (tok_new1 _ _ _ _ (by first | rfl | (simp; done))) (by omega) (by have := HS.out; omega) (Nat.le_trans HB.out (Nat.le_trans B2.out.size (alloc_same _ _).size)) ?_; intro v5 w5 h5 g5; have H5 := Lib.hid h5; have G5 := Lib.hid ((Grew.of_below (two_below B2.out (alloc_same _ _))).trans g5); have hc5 := box_after HT.out B2'.out g5 HC.out; clear h5 g5)
  go_loopg [0, 79] l.len (fun g vq i wx => ∃ q : Nat, q + g = l.len ∧ i = .int .i64 q ∧ Aside (TR base wx vq (ts ++ (1, openT) :: vtokL (l.take q)) ∧ Grew w wx V vq))
  case atStart => exact ⟨0, by omega, rfl, vaside ⟨by rw [VL.take_zero, vtokL]; exact H5.out, G5.out⟩⟩
  case round =>
    obtain ⟨q, hq, rfl, HA⟩ := hrel
    have HTq := Lib.hid HA.1
    have HGq := Lib.hid HA.2
    have hwr := HA.2.1.size
    have HBq := Lib.hid (HA.2.base HT.out HB.out)
    clear HA H5 G5 hc5
    cases gk with
    | zero =>
      obtain rfl : q = l.len := by omega
      have hT2 := HTq.out
      rw [VL.take_all] at hT2
      have HT2 := Lib.hid hT2
      have hll := Lib.hid (vtokL_len l)
      clear hT2 HTq
      go_wp2_with fail
      refine (vpunct_any _ _).mono ?_
      rintro e w6 ⟨rfl, hb6⟩
      have B6 := Lib.hid hb6
      clear hb6
      go_wp2_with (at_builtin; refine wpList_append_tok rfl _ _ rfl base _ _ rfl ((HT2.out.low B6.out).low (alloc_same _ _)) _ _ _ [(1, shutT)] rfl rfl (tok_new1 _ _ _ _ (by first | rfl | (simp; done))) (by omega) (by have h1 := HS.out; have h2 := hll.out; simp only [List.length_append, List.length_cons]; omega) (Nat.le_trans HB.out (Nat.le_trans hwr (Nat.le_trans B6.out.size (alloc_same _ _).size))) ?_; intro v7 w7 h7 g7; have H7 := Lib.hid h7; have G7 := Lib.hid (HGq.out.trans ((Grew.of_below (two_below B6.out (alloc_same _ _))).trans g7)); clear h7 g7)
      go_ret
      exact write_said htk.out (by have := H7.out; simpa using this) G7.out
    | succ g =>
      have hqn : q < l.len := by omega
      have hqn' : (q : Int) < (l.len : Int) := by omega
      obtain ⟨x, hx⟩ := VL.get_lt hqn
      have hxs := sizeL_get hx
      have hxf := fitL_get hff.out hx
      have hxr := rngL_get hrr.out hx
      have hrm := roomL hx
      have hnx := Lib.hid (VL.take_next hx)
      obtain ⟨b, o, d0, d1, d2, d3, d4, rfl, hblt, hF, hV⟩ := LAt.at (LAt.below HBq.out _ _ _ HL.out) hx
      rw [Nat.zero_add] at hF
      have hBr := Nat.le_trans HB.out hwr
      have C := Lib.hid (HH.out x (by have := HN.out; omega) d0 d1 d2 d3 d4)
      have hV0 := Lib.hid hV
      obtain ⟨xk, xn, xs, xl, xm⟩ := x
      unfold VAt at hV
      obtain ⟨rfl, rfl, rfl, _, ⟨A3, c3', rfl, _, _⟩, A4, c4', rfl, _, _⟩ := hV
      obtain ⟨f0, f1, f2, f3, f4⟩ := hF
      have hnew := Lib.hid (alloc_same wr (.cells #[.int .i64 xk, .int .i64 xn, .string xs, .slice A3 xl.len c3', .slice A4 xm.len c4'] 25))
      have HW := Lib.hid (C.out _ base _ _ (Nat.le_trans hBr hnew.out.size) (VAt.below (hnew.out.mono hBr) _ _ _ _ _ _ hV0.out) (HTq.out.low hnew.out) (by have := HS.out; simp only [List.length_append, List.length_cons]; omega) (by have := HZ.out; omega) ((HK.out.below HBq.out).below (hnew.out.mono hBr)) hxf hxr)
      clear C hxs hxf hxr hrm hx
      go_wp2_with fail
      refine HW.out.mono ?_
      rintro e w6 ⟨V6, rfl, h6, g6⟩
      have H6 := Lib.hid h6
      have G6 := Lib.hid (HGq.out.trans ((Grew.of_below hnew.out).trans g6))
      clear h6 g6 f0 f1 f2 f3 f4
      go_wp2_with fail
      go_roundg g
      case measure => omega
      case rel => exact ⟨q + 1, by omega, by go_num, vaside ⟨by rw [hnx.out, vtokL_snoc]; have := H6.out; simpa using this, G6.out⟩⟩
end Go.Proofs.YtnmidlbhkjcimaaDoor
