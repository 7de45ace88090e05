/- The walk of value.write: the simple kinds. (gen_write.py wrote it.) -/
import Derived.Test.YtcdcfhplkimecaaDoorVToks
namespace Go.Proofs.YtcdcfhplkimecaaDoor
open Go.RowKit

/-- The listed variables lie below the base, and stand. -/
def KB (base : Nat) (w : World) : Prop := ∃ w0, Laid5 w0 ∧ w0.heap.size ≤ base ∧ Below w0.heap.size w0 w
theorem KB.laid {base : Nat} {w : World} (h : KB base w) : Laid5 w := by
  obtain ⟨w0, h0, _, hb⟩ := h
  exact h0.below hb
theorem KB.below {base : Nat} {w w' : World} (h : KB base w) (hb : Below base w w') : KB base w' := by
  obtain ⟨w0, h0, hl, hb0⟩ := h
  exact ⟨w0, h0, hl, hb0.trans (hb.mono hl)⟩
mutual
theorem vtok_len : ∀ v : VT, (vtok v).length + 2 ≤ 4 * sizeV v
  | .mk k n s l m => by
    have h1 := vtokL_len l
    have h2 := vtokM_len m
    rw [vtok, sizeV]
    repeat' split
    all_goals (simp only [List.length_cons, List.length_nil, List.length_append]; omega)
theorem vtokL_len : ∀ l : VL, (vtokL l).length ≤ 4 * sizeL l
  | .nil => by simp [vtokL]
  | .cons v t => by
    rw [vtokL, sizeL, List.length_append]
    have := vtok_len v
    have := vtokL_len t
    omega
theorem vtokM_len : ∀ l : VM, (vtokM l).length ≤ 4 * sizeM l
  | .nil => by simp [vtokM]
  | .cons nm v t => by
    rw [vtokM, sizeM]
    simp only [List.length_cons, List.length_append]
    have := vtok_len v
    have := vtokM_len t
    omega
end
def WriteC (v : VT) : Prop := ∀ (c0 c1 c2 c3 c4 : Value) (w : World) (base : Nat) (V : Value) (ts : List (Int × ByteArray)), base ≤ w.heap.size → VAt w base v c0 c1 c2 c3 c4 → TR base w V ts → ts.length + 4 * sizeV v ≤ 200000 → sizeV v ≤ 9000 → KB base w → fitV nameB v = true → RngV v →
  Calls Tryd.prog 33 #[V, .agg #[c0, c1, c2, c3, c4]] w fun e w' => ∃ V', e = .returned V' ∧ TR base w' V' (ts ++ vtok v) ∧ Grew w w' V V'
theorem write_said {base : Nat} {w w' : World} {v : VT} {V V' : Value} {ts new : List (Int × ByteArray)} (hk : vtok v = new) (h : TR base w' V' (ts ++ new)) (hb : Grew w w' V V') : ∃ V'', Ending.returned V' = .returned V'' ∧ TR base w' V'' (ts ++ vtok v) ∧ Grew w w' V V'' := ⟨V', rfl, by rw [hk]; exact h, hb⟩
theorem alloc_same (w : World) (o : Obj) : Below w.heap.size w (w.alloc o) := (Below.refl _ _).alloc (Nat.le_refl _) o
theorem two_below {w w2 w3 : World} (h : Below w.heap.size w w2) (h' : Below w2.heap.size w2 w3) : Below w.heap.size w w3 := h.trans (h'.mono h.size)
set_option maxRecDepth 100000 in
set_option maxHeartbeats 4000000 in
theorem write_null (n : Int) (s : ByteArray) (l : VL) (m : VM) : WriteC (.mk 0 n s l m) := by
  intro c0 c1 c2 c3 c4 w base V ts hB hv hT hlen hz hK hfit hrng
  have hs9 : s.size ≤ 9000 := by rw [sizeV] at hz; omega
  have hlen2 : ts.length + 4 ≤ 200000 := by rw [sizeV] at hlen; omega
  unfold RngV at hrng
  have hn := hrng.1
  unfold VAt at hv
  obtain ⟨rfl, rfl, rfl, _, ⟨A, c, rfl, hl, hL⟩, A', c', rfl, hm, hM⟩ := hv
  have HB := Lib.hid hB
  have HT := Lib.hid hT
  have HK := Lib.hid hK
  have HS := Lib.hid hlen2
  have HN := Lib.hid hn
  have h1 := Lib.hid (alloc_same w (.cells #[.int .i64 0, .int .i64 n, .string s, .slice A l.len c, .slice A' m.len c'] 25))
  clear hL hM hB hT hK hlen hlen2 hfit hrng hn hz
  go_enter Tryd.func33, Tryd.ntmps33
  go_wp2_with fail
  refine (vword_any _ _).mono ?_
  rintro e w2 ⟨rfl, hb2⟩
  have B2 := Lib.hid (two_below h1.out hb2)
  clear hb2
  go_wp2_with (at_builtin; refine wpList_append_tok rfl _ _ rfl base _ ts rfl ((HT.out.low B2.out).low (alloc_same _ _)) _ _ _ [(2, nullT)] rfl rfl (tok_new1 _ _ _ _ (by first | rfl | (simp; done))) (by omega) (by have := HS.out; omega) (Nat.le_trans HB.out (Nat.le_trans B2.out.size (alloc_same _ _).size)) ?_; intro v5 w5 h5 g5; have H5 := Lib.hid h5; have G5 := Lib.hid ((Grew.of_below (two_below B2.out (alloc_same _ _))).trans g5); clear h5 g5)
  go_ret
  exact write_said (vtok0 _ _ _ _) H5.out G5.out
set_option maxRecDepth 100000 in
set_option maxHeartbeats 4000000 in
theorem write_bool (n : Int) (s : ByteArray) (l : VL) (m : VM) : WriteC (.mk 1 n s l m) := by
  intro c0 c1 c2 c3 c4 w base V ts hB hv hT hlen hz hK hfit hrng
  have hs9 : s.size ≤ 9000 := by rw [sizeV] at hz; omega
  have hlen2 : ts.length + 4 ≤ 200000 := by rw [sizeV] at hlen; omega
  unfold RngV at hrng
  have hn := hrng.1
  unfold VAt at hv
  obtain ⟨rfl, rfl, rfl, _, ⟨A, c, rfl, hl, hL⟩, A', c', rfl, hm, hM⟩ := hv
  have HB := Lib.hid hB
  have HT := Lib.hid hT
  have HK := Lib.hid hK
  have HS := Lib.hid hlen2
  have HN := Lib.hid hn
  have h1 := Lib.hid (alloc_same w (.cells #[.int .i64 1, .int .i64 n, .string s, .slice A l.len c, .slice A' m.len c'] 25))
  clear hL hM hB hT hK hlen hlen2 hfit hrng hn hz
  go_enter Tryd.func33, Tryd.ntmps33
  go_wp2_with fail
  refine (vtruth_any _ _).mono ?_
  rintro e w2 ⟨rfl, hb2⟩
  have B2 := Lib.hid (two_below h1.out hb2)
  clear hb2
  go_wp2_with (at_builtin; refine wpList_append_tok rfl _ _ rfl base _ ts rfl ((HT.out.low B2.out).low (alloc_same _ _)) _ _ _ [(2, truthT n)] rfl rfl (tok_new1 _ _ _ _ (by first | rfl | (simp; done))) (by omega) (by have := HS.out; omega) (Nat.le_trans HB.out (Nat.le_trans B2.out.size (alloc_same _ _).size)) ?_; intro v5 w5 h5 g5; have H5 := Lib.hid h5; have G5 := Lib.hid ((Grew.of_below (two_below B2.out (alloc_same _ _))).trans g5); clear h5 g5)
  go_ret
  exact write_said (vtok1 _ _ _ _) H5.out G5.out
set_option maxRecDepth 100000 in
set_option maxHeartbeats 4000000 in
theorem write_int (n : Int) (s : ByteArray) (l : VL) (m : VM) : WriteC (.mk 2 n s l m) := by
  intro c0 c1 c2 c3 c4 w base V ts hB hv hT hlen hz hK hfit hrng
  have hs9 : s.size ≤ 9000 := by rw [sizeV] at hz; omega
  have hlen2 : ts.length + 4 ≤ 200000 := by rw [sizeV] at hlen; omega
  unfold RngV at hrng
  have hn := hrng.1
  unfold VAt at hv
  obtain ⟨rfl, rfl, rfl, _, ⟨A, c, rfl, hl, hL⟩, A', c', rfl, hm, hM⟩ := hv
  have HB := Lib.hid hB
  have HT := Lib.hid hT
  have HK := Lib.hid hK
  have HS := Lib.hid hlen2
  have HN := Lib.hid hn
  have h1 := Lib.hid (alloc_same w (.cells #[.int .i64 2, .int .i64 n, .string s, .slice A l.len c, .slice A' m.len c'] 25))
  clear hL hM hB hT hK hlen hlen2 hfit hrng hn hz
  go_enter Tryd.func33, Tryd.ntmps33
  go_wp2_with fail
  refine (formatInt n HN.out _ (HK.out.laid.below h1.out)).mono ?_
  rintro e w2 ⟨rfl, hb2⟩
  have B2 := Lib.hid (two_below h1.out hb2)
  clear hb2
  go_wp2_with (at_builtin; refine wpList_append_tok rfl _ _ rfl base _ ts rfl ((HT.out.low B2.out).low (alloc_same _ _)) _ _ _ [(3, itoaT n)] rfl rfl (tok_new1 _ _ _ _ (by first | rfl | (simp; done))) (by omega) (by have := HS.out; omega) (Nat.le_trans HB.out (Nat.le_trans B2.out.size (alloc_same _ _).size)) ?_; intro v5 w5 h5 g5; have H5 := Lib.hid h5; have G5 := Lib.hid ((Grew.of_below (two_below B2.out (alloc_same _ _))).trans g5); clear h5 g5)
  go_ret
  exact write_said (vtok2 _ _ _ _) H5.out G5.out
set_option maxRecDepth 100000 in
set_option maxHeartbeats 4000000 in
theorem write_text (n : Int) (s : ByteArray) (l : VL) (m : VM) : WriteC (.mk 4 n s l m) := by
  intro c0 c1 c2 c3 c4 w base V ts hB hv hT hlen hz hK hfit hrng
  have hs9 : s.size ≤ 9000 := by rw [sizeV] at hz; omega
  have hlen2 : ts.length + 4 ≤ 200000 := by rw [sizeV] at hlen; omega
  unfold RngV at hrng
  have hn := hrng.1
  unfold VAt at hv
  obtain ⟨rfl, rfl, rfl, _, ⟨A, c, rfl, hl, hL⟩, A', c', rfl, hm, hM⟩ := hv
  have HB := Lib.hid hB
  have HT := Lib.hid hT
  have HK := Lib.hid hK
  have HS := Lib.hid hlen2
  have HN := Lib.hid hn
  have h1 := Lib.hid (alloc_same w (.cells #[.int .i64 4, .int .i64 n, .string s, .slice A l.len c, .slice A' m.len c'] 25))
  clear hL hM hB hT hK hlen hlen2 hfit hrng hn hz
  go_enter Tryd.func33, Tryd.ntmps33
  go_wp2_with (at_builtin; refine wpList_append_tok rfl _ _ rfl base _ ts rfl ((HT.out.low h1.out).low (alloc_same _ _)) _ _ _ [(5, s)] rfl rfl (tok_new1 _ _ _ _ (by first | rfl | (simp; done))) (by omega) (by have := HS.out; omega) (Nat.le_trans HB.out (Nat.le_trans h1.out.size (alloc_same _ _).size)) ?_; intro v5 w5 h5 g5; have H5 := Lib.hid h5; have G5 := Lib.hid ((Grew.of_below (two_below h1.out (alloc_same _ _))).trans g5); clear h5 g5)
  go_ret
  exact write_said (vtok4 _ _ _ _) H5.out G5.out
set_option maxRecDepth 100000 in
set_option maxHeartbeats 4000000 in
theorem write_enum (n : Int) (s : ByteArray) (l : VL) (m : VM) : WriteC (.mk 5 n s l m) := by
  intro c0 c1 c2 c3 c4 w base V ts hB hv hT hlen hz hK hfit hrng
  have hs9 : s.size ≤ 9000 := by rw [sizeV] at hz; omega
  have hlen2 : ts.length + 4 ≤ 200000 := by rw [sizeV] at hlen; omega
  unfold RngV at hrng
  have hn := hrng.1
  unfold VAt at hv
  obtain ⟨rfl, rfl, rfl, _, ⟨A, c, rfl, hl, hL⟩, A', c', rfl, hm, hM⟩ := hv
  have HB := Lib.hid hB
  have HT := Lib.hid hT
  have HK := Lib.hid hK
  have HS := Lib.hid hlen2
  have HN := Lib.hid hn
  have h1 := Lib.hid (alloc_same w (.cells #[.int .i64 5, .int .i64 n, .string s, .slice A l.len c, .slice A' m.len c'] 25))
  clear hL hM hB hT hK hlen hlen2 hfit hrng hn hz
  go_enter Tryd.func33, Tryd.ntmps33
  go_wp2_with fail
  refine (vword_any _ _).mono ?_
  rintro e w2 ⟨rfl, hb2⟩
  have B2 := Lib.hid (two_below h1.out hb2)
  clear hb2
  go_wp2_with (at_builtin; refine wpList_append_tok rfl _ _ rfl base _ ts rfl ((HT.out.low B2.out).low (alloc_same _ _)) _ _ _ [(2, s)] rfl rfl (tok_new1 _ _ _ _ (by first | rfl | (simp; done))) (by omega) (by have := HS.out; omega) (Nat.le_trans HB.out (Nat.le_trans B2.out.size (alloc_same _ _).size)) ?_; intro v5 w5 h5 g5; have H5 := Lib.hid h5; have G5 := Lib.hid ((Grew.of_below (two_below B2.out (alloc_same _ _))).trans g5); clear h5 g5)
  go_ret
  exact write_said (vtok5 _ _ _ _) H5.out G5.out
end Go.Proofs.YtcdcfhplkimecaaDoor
