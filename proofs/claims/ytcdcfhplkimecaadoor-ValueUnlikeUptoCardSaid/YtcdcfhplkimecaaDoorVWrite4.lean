/- The walk of value.write: maps, and all kinds together. -/
import Derived.Test.YtcdcfhplkimecaaDoorVWrite3
import Derived.Test.YtcdcfhplkimecaaDoorVCopy3
namespace Go.Proofs.YtcdcfhplkimecaaDoor
open Go.RowKit

/-- A member's six cells, in a box. -/
theorem six_at_new (w : World) (a a0 a1 a2 a3 a4 : Value) (t : TypeId) : Mem6 (w.alloc (.cells #[a, a0, a1, a2, a3, a4] t)) w.heap.size 0 a a0 a1 a2 a3 a4 := by
  refine ⟨?_, ?_, ?_, ?_, ?_, ?_⟩ <;> (rw [World.cell?_alloc_at _ _ _ _ rfl]; rfl)
theorem Mem6.below {w w' : World} {b O : Nat} {nm d0 d1 d2 d3 d4 : Value} (h : Mem6 w b O nm d0 d1 d2 d3 d4) (hb : Below w.heap.size w w') (hlt : b < w.heap.size) : Mem6 w' b O nm d0 d1 d2 d3 d4 := h.next (hb.block b hlt)
theorem Mem6.grew {w w' : World} {V V' : Value} {b O : Nat} {nm d0 d1 d2 d3 d4 : Value} (h : Mem6 w b O nm d0 d1 d2 d3 d4) (hg : Grew w w' V V') (hlt : b < w.heap.size) (hV : V.ownBlock ≠ some b) : Mem6 w' b O nm d0 d1 d2 d3 d4 := h.next (hg.1.block b hlt (fun e => hV e.symm))
theorem mem_call {w w2 : World} {nm d0 d1 d2 d3 d4 : Value} {t : TypeId} (hb : Below (w.alloc (.cells #[nm, d0, d1, d2, d3, d4] t)).heap.size (w.alloc (.cells #[nm, d0, d1, d2, d3, d4] t)) w2) : Mem6 w2 w.heap.size 0 nm d0 d1 d2 d3 d4 :=
  (six_at_new w nm d0 d1 d2 d3 d4 t).below hb (by simp)
theorem mem_after {base : Nat} {w w2 w5 : World} {V V' : Value} {ts : List (Int × ByteArray)} {nm d0 d1 d2 d3 d4 : Value} {t : TypeId} {o : Obj} (hT : TR base w V ts) (hb : Below (w.alloc (.cells #[nm, d0, d1, d2, d3, d4] t)).heap.size (w.alloc (.cells #[nm, d0, d1, d2, d3, d4] t)) w2) (g5 : Grew (w2.alloc o) w5 V V') : Mem6 w5 w.heap.size 0 nm d0 d1 d2 d3 d4 := by
  have hs : (w.alloc (.cells #[nm, d0, d1, d2, d3, d4] t)).heap.size = w.heap.size + 1 := by simp
  have h2 := hb.size
  have h3 := (mem_call hb).below (alloc_same w2 o) (by omega)
  exact h3.grew g5 (by simp; omega) (fun e => by have := (hT.lt w.heap.size e).2; omega)
theorem mem_write {base : Nat} {w w2 w5 w6 : World} {V V' V'' : Value} {ts : List (Int × ByteArray)} {nm d0 d1 d2 d3 d4 : Value} {t : TypeId} {o : Obj} (hT : TR base w V ts) (hb : Below (w.alloc (.cells #[nm, d0, d1, d2, d3, d4] t)).heap.size (w.alloc (.cells #[nm, d0, d1, d2, d3, d4] t)) w2) (g5 : Grew (w2.alloc o) w5 V V') (g6 : Grew w5 w6 V' V'') : Mem6 w6 w.heap.size 0 nm d0 d1 d2 d3 d4 := by
  have hs : (w.alloc (.cells #[nm, d0, d1, d2, d3, d4] t)).heap.size = w.heap.size + 1 := by simp
  have h2 := hb.size
  have h5 := g5.1.size
  have h6 : (w2.alloc o).heap.size = w2.heap.size + 1 := by simp
  refine (mem_after hT hb g5).grew g6 (by omega) (fun e => ?_)
  rcases g5.2 w.heap.size e with h | h
  · have := (hT.lt w.heap.size h).2; omega
  · omega

set_option maxRecDepth 100000 in
set_option maxHeartbeats 8000000 in
theorem write_map (N : Nat) (H : ∀ u, sizeV u ≤ N → WriteC u) (n : Int) (s : ByteArray) (l : VL) (m : VM) (hN : sizeV (.mk 7 n s l m) ≤ N + 1) : WriteC (.mk 7 n s l m) := by
  intro c0 c1 c2 c3 c4 w base V ts hB hv hT hlen hz hK hfit hrng
  have hN' : sizeM m ≤ N := by rw [sizeV] at hN; omega
  have hz' : sizeM m ≤ 9000 := by rw [sizeV] at hz; omega
  have hlen2 : ts.length + 4 + 4 * sizeM m ≤ 200000 := by rw [sizeV] at hlen; omega
  rw [fitV, Bool.and_eq_true, Bool.and_eq_true] at hfit
  unfold RngV at hrng
  have hff := Lib.hid hfit.2
  have hrr := Lib.hid hrng.2.2
  unfold VAt at hv
  obtain ⟨rfl, rfl, rfl, _, ⟨A, c, rfl, hl, hL⟩, A', c', rfl, hm, hM⟩ := hv
  have HB := Lib.hid hB
  have HT := Lib.hid hT
  have HS := Lib.hid hlen2
  have HH := Lib.hid H
  have HM := Lib.hid hM
  have HK := Lib.hid hK
  have HN := Lib.hid hN'
  have HZ := Lib.hid hz'
  have h1 := Lib.hid (alloc_same w (.cells #[.int .i64 7, .int .i64 n, .string s, .slice A l.len c, .slice A' m.len c'] 25))
  have hc : (w.alloc (.cells #[.int .i64 7, .int .i64 n, .string s, .slice A l.len c, .slice A' m.len c'] 25)).cell? ⟨w.heap.size, 4, none⟩ = some (.slice A' m.len c') := by rw [World.cell?_alloc_at _ _ _ _ rfl]; rfl
  have HC := Lib.hid hc
  have htk : Hid (vtok (.mk 7 n s l m) = (1, openM) :: (vtokM m ++ [(1, shutM)])) := Lib.hid (vtok7 _ _ _ _)
  clear hL hB hT hK hlen hlen2 hfit hrng hc hz hN hM H hz' hN'
  go_enter Tryd.func33, Tryd.ntmps33
  go_wp2_with fail
  refine (vpunct_any _ _).mono ?_
  rintro e w2 ⟨rfl, hb2⟩
  have hc2 := Lib.hid (box_call hb2 HC.out)
  have B2' := Lib.hid hb2
  have B2 := Lib.hid (two_below h1.out hb2)
  clear hb2
  go_wp2_with (at_builtin; refine wpList_append_tok rfl _ _ rfl base _ ts rfl ((HT.out.low B2.out).low (alloc_same _ _)) _ _ _ [(1, openM)] rfl rfl (tok_new1 _ _ _ _ (by first | rfl | (simp; done))) (by omega) (by have := HS.out; omega) (Nat.le_trans HB.out (Nat.le_trans B2.out.size (alloc_same _ _).size)) ?_; intro v5 w5 h5 g5; have H5 := Lib.hid h5; have G5 := Lib.hid ((Grew.of_below (two_below B2.out (alloc_same _ _))).trans g5); have hc5 := box_after HT.out B2'.out g5 HC.out; clear h5 g5)
  go_loopg [0, 100] m.len (fun g vq i wx => ∃ q : Nat, q + g = m.len ∧ i = .int .i64 q ∧ Aside (TR base wx vq (ts ++ (1, openM) :: vtokM (m.take q)) ∧ Grew w wx V vq))
  case atStart => exact ⟨0, by omega, rfl, vaside ⟨by rw [VM.take_zero, vtokM]; exact H5.out, G5.out⟩⟩
  case round =>
    obtain ⟨q, hq, rfl, HA⟩ := hrel
    rename_i vq _
    have HTq := Lib.hid HA.1
    have HGq := Lib.hid HA.2
    have hwr := HA.2.1.size
    have HBq := Lib.hid (HA.2.base HT.out HB.out)
    clear HA H5 G5 hc5
    cases gk with
    | zero =>
      obtain rfl : q = m.len := by omega
      have hT2 := HTq.out
      rw [VM.take_all] at hT2
      have HT2 := Lib.hid hT2
      have hll := Lib.hid (vtokM_len m)
      clear hT2 HTq
      go_wp2_with fail
      refine (vpunct_any _ _).mono ?_
      rintro e w6 ⟨rfl, hb6⟩
      have B6 := Lib.hid hb6
      clear hb6
      go_wp2_with (at_builtin; refine wpList_append_tok rfl _ _ rfl base _ _ rfl ((HT2.out.low B6.out).low (alloc_same _ _)) _ _ _ [(1, shutM)] rfl rfl (tok_new1 _ _ _ _ (by first | rfl | (simp; done))) (by omega) (by have h1 := HS.out; have h2 := hll.out; simp only [List.length_append, List.length_cons]; omega) (Nat.le_trans HB.out (Nat.le_trans hwr (Nat.le_trans B6.out.size (alloc_same _ _).size))) ?_; intro v7 w7 h7 g7; have H7 := Lib.hid h7; have G7 := Lib.hid (HGq.out.trans ((Grew.of_below (two_below B6.out (alloc_same _ _))).trans g7)); clear h7 g7)
      go_ret
      exact write_said htk.out (by have := H7.out; simpa using this) G7.out
    | succ g =>
      have hqn : q < m.len := by omega
      have hqn' : (q : Int) < (m.len : Int) := by omega
      obtain ⟨⟨nm, x⟩, hx⟩ := VM.get_lt hqn
      have hxs := (name_size hx).2
      have hxf := fitM_get hff.out hx
      have hxr := rngM_get hrr.out hx
      have hrm := roomM hx
      have hnx := Lib.hid (VM.take_next hx)
      obtain ⟨b, o, d0, d1, d2, d3, d4, rfl, hblt, hnm, _, hF, hV⟩ := MAt.at (MAt.below HBq.out _ _ _ HM.out) hx
      rw [Nat.zero_add] at hF hnm
      have hBr := Nat.le_trans HB.out hwr
      have C := Lib.hid (HH.out x (by have := HN.out; omega) d0 d1 d2 d3 d4)
      have hV0 := Lib.hid hV
      obtain ⟨xk, xn, xs, xl, xm⟩ := x
      unfold VAt at hV
      obtain ⟨rfl, rfl, rfl, _, ⟨A3, c3', rfl, _, _⟩, A4, c4', rfl, _, _⟩ := hV
      obtain ⟨f0, f1, f2, f3, f4⟩ := hF
      have hnew := Lib.hid (alloc_same wr (.cells #[.string nm, .int .i64 xk, .int .i64 xn, .string xs, .slice A3 xl.len c3', .slice A4 xm.len c4'] 47))
      have hroom : Hid ((ts ++ (1, openM) :: vtokM (m.take q)).length + 2 + 4 * sizeV (.mk xk xn xs xl xm) ≤ 200000) := Lib.hid (by have := HS.out; simp only [List.length_append, List.length_cons]; omega)
      have HW := fun (w5 : World) (v5 : Value) (h5 : TR base w5 v5 ((ts ++ (1, openM) :: vtokM (m.take q)) ++ [(2, nm), (1, colonT)])) (hb5 : Below base wr w5) => Lib.hid (C.out w5 base v5 _ (Nat.le_trans hBr hb5.size) (VAt.below hb5 _ _ _ _ _ _ hV0.out) h5 (by have := hroom.out; simp only [List.length_append, List.length_cons, List.length_nil] at this ⊢; omega) (by have := HZ.out; omega) ((HK.out.below HBq.out).below hb5) hxf hxr)
      have HX := Lib.hid (six_at_new wr (.string nm) (.int .i64 xk) (.int .i64 xn) (.string xs) (.slice A3 xl.len c3') (.slice A4 xm.len c4') 47)
      clear C hxs hxf hxr hrm hx
      go_wp2_with fail
      go_region_held3 (fun w' => w'.cell? ⟨wr.heap.size, 0, none⟩ = some (.string nm) ∧ w'.cell? ⟨wr.heap.size, 1, none⟩ = some (.int .i64 xk) ∧ w'.cell? ⟨wr.heap.size, 2, none⟩ = some (.int .i64 xn) ∧ w'.cell? ⟨wr.heap.size, 3, none⟩ = some (.string xs) ∧ w'.cell? ⟨wr.heap.size, 4, none⟩ = some (.slice A3 xl.len c3') ∧ w'.cell? ⟨wr.heap.size, 5, none⟩ = some (.slice A4 xm.len c4'))
        (first
          | exact HX.out
          | exact mem_call (undrew hbp)
          | exact mem_call (undrew hbw)
          | exact mem_call (two_below (undrew hbp) hbw)
          | exact mem_call (two_below (undrew hbw) hbp)
          | exact mem_after HTq.out (two_below (undrew hbp) hbw) g5
          | exact mem_after HTq.out (two_below (undrew hbw) hbp) g5
          | exact mem_write HTq.out (two_below (undrew hbp) hbw) g5 g6
          | exact mem_write HTq.out (two_below (undrew hbw) hbp) g5 g6
          | go_keep)
        ((first
          | (go_at_call 54; refine (vpunct_any _ _).mono ?_; rintro e wp ⟨rfl, hbp⟩)
          | (go_at_call 50; refine (vword_any _ _).mono ?_; rintro e ww ⟨rfl, hbw⟩)
          | (go_at_call 33; refine (HW _ _ h5 (by first | exact (Grew.base ((Grew.of_below (two_below (two_below hnew.out (two_below (undrew hbp) hbw)) (alloc_same _ _))).trans g5) HTq.out hBr) | exact (Grew.base ((Grew.of_below (two_below (two_below hnew.out (two_below (undrew hbw) hbp)) (alloc_same _ _))).trans g5) HTq.out hBr))).out.mono ?_; rintro e w6 ⟨V6, rfl, h6, g6⟩)
          | (refine step_append_tok (by rfl) _ _ (by rfl) base _ _ (by rfl) ((HTq.out.low (by first | exact two_below hnew.out (two_below (undrew hbp) hbw) | exact two_below hnew.out (two_below (undrew hbw) hbp))).low (alloc_same _ _)) _ 2 2 [(2, nm), (1, colonT)] (by rfl) (by rfl) (tok_new2 _ _ _ _ _ _ rfl) (by omega) (by have := hroom.out; omega) (Nat.le_trans hBr (Nat.le_trans (by first | exact (two_below hnew.out (two_below (undrew hbp) hbw)).size | exact (two_below hnew.out (two_below (undrew hbw) hbp)).size) (alloc_same _ _).size)) ?_; intro v5 w5 h5 g5)))
      all_goals
        have H6 := Lib.hid h6
        have G6 : Hid (Grew w w6 V V6) := Lib.hid (by first | exact HGq.out.trans (((Grew.of_below (two_below (two_below hnew.out (two_below (undrew hbp) hbw)) (alloc_same _ _))).trans g5).trans g6) | exact HGq.out.trans (((Grew.of_below (two_below (two_below hnew.out (two_below (undrew hbw) hbp)) (alloc_same _ _))).trans g5).trans g6))
        clear h5 g5 h6 g6 hbp hbw HW f0 f1 f2 f3 f4
        go_wp2_with fail
        go_roundg g
        case measure => omega
        case rel => exact ⟨q + 1, by omega, by go_num, vaside ⟨by rw [hnx.out, vtokM_snoc]; have := H6.out; simpa using this, G6.out⟩⟩
end Go.Proofs.YtcdcfhplkimecaaDoor
