/- The walk of value.write: numbers and variables. -/
import Derived.Test.YtcdcfhplkimecaaDoorVWrite
namespace Go.Proofs.YtcdcfhplkimecaaDoor
open Go.RowKit

theorem undrew {w w2 : World} (h : Below w.drew.heap.size w.drew w2) : Below w.heap.size w w2 := (Below.drew (Below.refl _ _)).trans h
/-- A cell of the argument's box, behind what a call and an append have done. -/
theorem box_after {base : Nat} {w w2 w5 : World} {V V' : Value} {ts : List (Int × ByteArray)} {b o : Obj} {i : Nat} {x : Value} (hT : TR base w V ts) (hb : Below (w.alloc b).heap.size (w.alloc b) w2) (g5 : Grew (w2.alloc o) w5 V V') (hc : (w.alloc b).cell? ⟨w.heap.size, i, none⟩ = some x) : w5.cell? ⟨w.heap.size, i, none⟩ = some x := by
  have hs : (w.alloc b).heap.size = w.heap.size + 1 := by simp
  have h2 := hb.size
  have hc2 : (w2.alloc o).cell? ⟨w.heap.size, i, none⟩ = some x := ((hb.trans ((alloc_same w2 o).mono h2)).cell (p := ⟨w.heap.size, i, none⟩) (by rw [hs]; exact Nat.lt_succ_self _)).trans hc
  exact g5.cell (by simp; omega) (fun e => by have := (hT.lt w.heap.size e).2; omega) hc2
theorem box_call {w w2 : World} {b : Obj} {i : Nat} {x : Value} (hb : Below (w.alloc b).heap.size (w.alloc b) w2) (hc : (w.alloc b).cell? ⟨w.heap.size, i, none⟩ = some x) : w2.cell? ⟨w.heap.size, i, none⟩ = some x :=
  (hb.cell (p := ⟨w.heap.size, i, none⟩) (by simp)).trans hc

set_option maxRecDepth 100000 in
set_option maxHeartbeats 4000000 in
theorem write_num (n : Int) (s : ByteArray) (l : VL) (m : VM) : WriteC (.mk 3 n s l m) := by
  intro c0 c1 c2 c3 c4 w base V ts hB hv hT hlen hz hK hfit hrng
  have hs9 : s.size ≤ 9000 := by rw [sizeV] at hz; omega
  have hlen2 : ts.length + 4 ≤ 200000 := by rw [sizeV] at hlen; omega
  unfold VAt at hv
  obtain ⟨rfl, rfl, rfl, _, ⟨A, c, rfl, hl, hL⟩, A', c', rfl, hm, hM⟩ := hv
  have HB := Lib.hid hB
  have HT := Lib.hid hT
  have HS := Lib.hid hlen2
  have h1 := Lib.hid (alloc_same w (.cells #[.int .i64 3, .int .i64 n, .string s, .slice A l.len c, .slice A' m.len c'] 25))
  have hc : (w.alloc (.cells #[.int .i64 3, .int .i64 n, .string s, .slice A l.len c, .slice A' m.len c'] 25)).cell? ⟨w.heap.size, 2, none⟩ = some (.string s) := by rw [World.cell?_alloc_at _ _ _ _ rfl]; rfl
  have HC := Lib.hid hc
  have hN := vnumberf_any s
  obtain ⟨k, hk⟩ : ∃ k, kindL s.data.toList = k := ⟨_, rfl⟩
  have htk : Hid (vtok (.mk 3 n s l m) = [(k, s)]) := Lib.hid (by rw [vtok3, hk])
  rw [hk] at hN
  have HN := fun wx => Lib.hid (hN wx hs9)
  clear hL hM hB hT hK hlen hlen2 hfit hrng hN hk hc hz
  go_enter Tryd.func33, Tryd.ntmps33
  go_wp2_with fail
  go_region_held3 (fun w' => w'.cell? ⟨w.heap.size, 2, none⟩ = some (.string s))
    (first
      | exact HC.out
      | exact box_call hb2 HC.out
      | exact box_after HT.out hb2 g5 HC.out
      | go_keep)
    ((first
      | (go_at_call 53; refine (HN _).out.mono ?_; rintro e w2 ⟨rfl, hb2'⟩; have hb2 := undrew hb2')
      | (refine step_append_tok (by rfl) _ _ (by rfl) base _ ts (by rfl) ((HT.out.low (two_below h1.out hb2)).low (alloc_same _ _)) w2.heap.size 1 1 [(k, s)] (by rfl) (by rfl) (tok_new1 _ _ _ _ rfl) (by omega) (by have := HS.out; omega) (Nat.le_trans HB.out (Nat.le_trans (two_below h1.out hb2).size (alloc_same _ _).size)) ?_; intro v5 w5 h5 g5)))
  have H5 := Lib.hid h5
  have G5 := Lib.hid ((Grew.of_below (two_below (two_below h1.out hb2) (alloc_same _ _))).trans g5)
  clear h5 g5 hb2 hb2'
  go_wp2_with fail
  go_ret
  exact write_said htk.out H5.out G5.out
set_option maxRecDepth 100000 in
set_option maxHeartbeats 4000000 in
theorem write_var (n : Int) (s : ByteArray) (l : VL) (m : VM) : WriteC (.mk 8 n s l m) := by
  intro c0 c1 c2 c3 c4 w base V ts hB hv hT hlen hz hK hfit hrng
  have hlen2 : ts.length + 4 ≤ 200000 := by rw [sizeV] at hlen; omega
  unfold VAt at hv
  obtain ⟨rfl, rfl, rfl, _, ⟨A, c, rfl, hl, hL⟩, A', c', rfl, hm, hM⟩ := hv
  have HB := Lib.hid hB
  have HT := Lib.hid hT
  have HS := Lib.hid hlen2
  have h1 := Lib.hid (alloc_same w (.cells #[.int .i64 8, .int .i64 n, .string s, .slice A l.len c, .slice A' m.len c'] 25))
  have hc : (w.alloc (.cells #[.int .i64 8, .int .i64 n, .string s, .slice A l.len c, .slice A' m.len c'] 25)).cell? ⟨w.heap.size, 2, none⟩ = some (.string s) := by rw [World.cell?_alloc_at _ _ _ _ rfl]; rfl
  have HC := Lib.hid hc
  have htk : Hid (vtok (.mk 8 n s l m) = [(1, dollarT), (2, s)]) := Lib.hid (vtok8 _ _ _ _)
  clear hL hM hB hT hK hlen hlen2 hfit hrng hc hz
  go_enter Tryd.func33, Tryd.ntmps33
  go_wp2_with fail
  go_region_held3 (fun w' => w'.cell? ⟨w.heap.size, 2, none⟩ = some (.string s))
    (first
      | exact HC.out
      | exact box_call (undrew hbp) HC.out
      | exact box_call (undrew hbw) HC.out
      | exact box_call (two_below (undrew hbp) hbw) HC.out
      | exact box_call (two_below (undrew hbw) hbp) HC.out
      | exact box_after HT.out (two_below (undrew hbp) hbw) g5 HC.out
      | exact box_after HT.out (two_below (undrew hbw) hbp) g5 HC.out
      | go_keep)
    ((first
      | (go_at_call 54; refine (vpunct_any _ _).mono ?_; rintro e wp ⟨rfl, hbp⟩)
      | (go_at_call 50; refine (vword_any _ _).mono ?_; rintro e ww ⟨rfl, hbw⟩)
      | (refine step_append_tok (by rfl) _ _ (by rfl) base _ ts (by rfl) ((HT.out.low (by first | exact two_below h1.out (two_below (undrew hbp) hbw) | exact two_below h1.out (two_below (undrew hbw) hbp))).low (alloc_same _ _)) _ 2 2 [(1, dollarT), (2, s)] (by rfl) (by rfl) (tok_new2 _ _ _ _ _ _ rfl) (by omega) (by have := HS.out; omega) (Nat.le_trans HB.out (Nat.le_trans (by first | exact (two_below h1.out (two_below (undrew hbp) hbw)).size | exact (two_below h1.out (two_below (undrew hbw) hbp)).size) (alloc_same _ _).size)) ?_; intro v5 w5 h5 g5)))
  all_goals
    have H5 := Lib.hid h5
    have G5 : Hid (Grew w w5 V v5) := Lib.hid (by first | exact (Grew.of_below (two_below (two_below h1.out (two_below (undrew hbp) hbw)) (alloc_same _ _))).trans g5 | exact (Grew.of_below (two_below (two_below h1.out (two_below (undrew hbw) hbp)) (alloc_same _ _))).trans g5)
    clear h5 g5 hbp hbw
    go_wp2_with fail
    go_ret
    exact write_said htk.out H5.out G5.out
end Go.Proofs.YtcdcfhplkimecaaDoor
