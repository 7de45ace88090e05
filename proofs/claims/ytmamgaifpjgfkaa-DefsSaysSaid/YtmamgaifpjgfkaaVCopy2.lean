/- The walk of seinekeep.Value: a copy of a value, from that of its parts. -/
import Derived.Test.YtmamgaifpjgfkaaVCopy
import Derived.Test.YtmamgaifpjgfkaaVGet
namespace Go.Proofs.Ytmamgaifpjgfkaa
open Go.RowKit

/-- The box and the result's block. -/
def KQ (w : World) (c0 c1 c2 c3 c4 : Value) (W : World) : Prop := W.heap[w.heap.size]? = some (.cells #[c0, c1, c2, c3, c4] 65 (0, 0)) ∧ W.heap[w.heap.size + 1]? = some (.cells #[.int .i64 0, .int .i64 0, .string ⟨#[]⟩, .slice none 0 0, .slice none 0 0] 65 (0, 0)) ∧ Below w.heap.size w W ∧ w.heap.size + 2 ≤ W.heap.size
theorem KQ.start (w : World) (c0 c1 c2 c3 c4 : Value) : KQ w c0 c1 c2 c3 c4 ((w.alloc (.cells #[c0, c1, c2, c3, c4] 65)).alloc (.cells #[.int .i64 0, .int .i64 0, .string ⟨#[]⟩, .slice none 0 0, .slice none 0 0] 65)) := by
  refine ⟨?_, heap_alloc2_new _ _ _, ((Below.refl _ _).alloc (Nat.le_refl _) _).alloc (by simp) _, by simp⟩
  rw [Below.heap_alloc _ _ _ (by simp)]
  exact heap_alloc_new _ _
theorem KQ.grown {w W W' : World} {c0 c1 c2 c3 c4 : Value} (h : KQ w c0 c1 c2 c3 c4 W) (hb : ∀ b, b < w.heap.size + 2 → W'.heap[b]? = W.heap[b]?) (hw : Below w.heap.size w W') (hs : W.heap.size ≤ W'.heap.size) : KQ w c0 c1 c2 c3 c4 W' :=
  ⟨(hb _ (by omega)).trans h.1, (hb _ (by omega)).trans h.2.1, hw, Nat.le_trans h.2.2.2 hs⟩
theorem KQ.next {w W W' : World} {c0 c1 c2 c3 c4 : Value} (h : KQ w c0 c1 c2 c3 c4 W) (hb : Below W.heap.size W W') : KQ w c0 c1 c2 c3 c4 W' :=
  h.grown (fun b hl => hb.block b (Nat.lt_of_lt_of_le hl h.2.2.2)) (h.2.2.1.trans (hb.mono h.2.2.1.size)) hb.size
theorem KQ.app {w W w2 w4 : World} {c0 c1 c2 c3 c4 V : Value} {o : Obj} {q : Nat} {xs : List Value} (h : KQ w c0 c1 c2 c3 c4 W) (hb : Below W.heap.size W w2) (hown : W.ownsRow (w.heap.size + 2) 65 5 V q xs) (hg : (w2.alloc o).grownBy w4 V.ownBlock) : KQ w c0 c1 c2 c3 c4 w4 := by
  have K2 := (h.next hb).next (W' := w2.alloc o) ((Below.refl _ _).alloc (Nat.le_refl _) _)
  exact K2.grown (fun b hl => hg.block b (Nat.lt_of_lt_of_le hl K2.2.2.2) (fun e => by have := (hown.lt b e.symm).1; omega)) (K2.2.2.1.grown hg K2.2.2.1.size (fun k hk => by have := (hown.lt k hk).1; omega)) hg.size
theorem five_cells {w : World} {b : Nat} {c0 c1 c2 c3 c4 : Value} (h : w.heap[b]? = some (.cells #[c0, c1, c2, c3, c4] 65 (0, 0))) : w.cell? ⟨b, 0, none⟩ = some c0 ∧ w.cell? ⟨b, 1, none⟩ = some c1 ∧ w.cell? ⟨b, 2, none⟩ = some c2 ∧ w.cell? ⟨b, 3, none⟩ = some c3 ∧ w.cell? ⟨b, 4, none⟩ = some c4 ∧ w.frozen? ⟨b, 0, none⟩ = false ∧ w.frozen? ⟨b, 1, none⟩ = false ∧ w.frozen? ⟨b, 2, none⟩ = false ∧ w.frozen? ⟨b, 3, none⟩ = false ∧ w.frozen? ⟨b, 4, none⟩ = false := by
  simp [World.cell?, World.frozen?, h]
/-- The last stores. -/
theorem copy_end {w w2 : World} {c0 c1 c2 c3 c4 : Value} (h : KQ w c0 c1 c2 c3 c4 w2) (x0 x1 x2 x3 x4 a3 a4 : Value) :
    (((((((w2.setCell ⟨w.heap.size, 3, none⟩ a3).setCell ⟨w.heap.size, 4, none⟩ a4).setCell ⟨w.heap.size + 1, 0, none⟩ x0).setCell ⟨w.heap.size + 1, 1, none⟩ x1).setCell ⟨w.heap.size + 1, 2, none⟩ x2).setCell ⟨w.heap.size + 1, 3, none⟩ x3).setCell ⟨w.heap.size + 1, 4, none⟩ x4).heap[w.heap.size + 1]? = some (.cells #[x0, x1, x2, x3, x4] 65 (0, 0)) ∧
    Below w.heap.size w (((((((w2.setCell ⟨w.heap.size, 3, none⟩ a3).setCell ⟨w.heap.size, 4, none⟩ a4).setCell ⟨w.heap.size + 1, 0, none⟩ x0).setCell ⟨w.heap.size + 1, 1, none⟩ x1).setCell ⟨w.heap.size + 1, 2, none⟩ x2).setCell ⟨w.heap.size + 1, 3, none⟩ x3).setCell ⟨w.heap.size + 1, 4, none⟩ x4) ∧
    (((((((w2.setCell ⟨w.heap.size, 3, none⟩ a3).setCell ⟨w.heap.size, 4, none⟩ a4).setCell ⟨w.heap.size + 1, 0, none⟩ x0).setCell ⟨w.heap.size + 1, 1, none⟩ x1).setCell ⟨w.heap.size + 1, 2, none⟩ x2).setCell ⟨w.heap.size + 1, 3, none⟩ x3).setCell ⟨w.heap.size + 1, 4, none⟩ x4).heap.size = w2.heap.size ∧
    ∀ b, w.heap.size + 2 ≤ b → (((((((w2.setCell ⟨w.heap.size, 3, none⟩ a3).setCell ⟨w.heap.size, 4, none⟩ a4).setCell ⟨w.heap.size + 1, 0, none⟩ x0).setCell ⟨w.heap.size + 1, 1, none⟩ x1).setCell ⟨w.heap.size + 1, 2, none⟩ x2).setCell ⟨w.heap.size + 1, 3, none⟩ x3).setCell ⟨w.heap.size + 1, 4, none⟩ x4).heap[b]? = w2.heap[b]? := by
  refine ⟨?_, ?_, ?_, fun b hb => ?_⟩
  · simp [World.setCell, Array.getElem?_modify, h.2.1]
  · exact ((((((h.2.2.1.setCell (Nat.le_refl _) _).setCell (Nat.le_refl _) _).setCell (Nat.le_succ _) _).setCell (Nat.le_succ _) _).setCell (Nat.le_succ _) _).setCell (Nat.le_succ _) _).setCell (Nat.le_succ _) _
  · simp [World.setCell]
  · have n0 : b ≠ w.heap.size := by omega
    have n1 : b ≠ w.heap.size + 1 := by omega
    rw [Below.heap_setCell _ _ _ _ n1, Below.heap_setCell _ _ _ _ n1, Below.heap_setCell _ _ _ _ n1, Below.heap_setCell _ _ _ _ n1, Below.heap_setCell _ _ _ _ n1, Below.heap_setCell _ _ _ _ n0, Below.heap_setCell _ _ _ _ n0]

set_option maxRecDepth 100000 in
set_option maxHeartbeats 8000000 in
theorem copy_step (N : Nat) (H : ∀ u, sizeV u ≤ N → SlimV u → CopyC u) (HMem : ∀ m, sizeM m ≤ N → m.len * 96 ≤ 140737488355328 → SlimM m → CopyM m) : ∀ u, sizeV u ≤ N + 1 → SlimV u → CopyC u := by
  intro u hu hslim c0 c1 c2 c3 c4 w B hB h1
  obtain ⟨i0, hi, hz0, hz1, hz2⟩ := info_parts info_val
  have HS := Lib.hid H
  have HMB := Lib.hid HMem
  have HB0 := Lib.hid hB
  clear H HMem hB
  obtain ⟨k, n, s, l, m⟩ := u
  rw [sizeV] at hu
  unfold VAt at h1
  obtain ⟨rfl, rfl, rfl, hs, ⟨A, c, rfl, hl, hL⟩, A2, c2', rfl, hm, hM⟩ := h1
  have HL := Lib.hid hL
  have HM := Lib.hid hM
  unfold SlimV at hslim
  have hll := hslim.1
  have HSL := Lib.hid hslim.2.2.1
  have HSM := Lib.hid hslim.2.2
  have hml := hslim.2.1
  clear hslim
  clear hL hM
  go_enter Try.func56, Try.ntmps56
  go_wp2_with fail
  go_loopg [3, 4] l.len (fun g out i wx => ∃ q : Nat, q + g = l.len ∧ i = .int .i64 q ∧ KQ w (.int .i64 k) (.int .i64 n) (.string s) (.slice A l.len c) (.slice A2 m.len c2') wx ∧ Aside (RT (w.heap.size + 2) wx out q (l.take q)))
  case atStart => exact ⟨0, by omega, rfl, KQ.start _ _ _ _ _ _, vaside (by rw [VL.take_zero]; exact RT.start _ _)⟩
  case round =>
    obtain ⟨q, hq, rfl, hK, HA⟩ := hrel
    have K := Lib.hid hK
    have HBB := Lib.hid hK.2.2.1
    obtain ⟨g0, g1, g2, g3, g4, g5, g6, g7, g8, g9⟩ := five_cells hK.1
    obtain ⟨xs, P, hown, hvals, hP⟩ := HA.out
    obtain ⟨Ao, co, rfl⟩ := shape_own hown
    have HO := Lib.hid hown
    have HV := Lib.hid hvals
    have HP := Lib.hid hP
    have hws := hK.2.2.2
    clear hK hvals hP HA hown
    cases gk with
    | zero =>
      obtain rfl : q = l.len := by omega
      have C := fun (wx : World) (hx : Below w.heap.size w wx) => Lib.hid (HMB.out m (by omega) hml HSM.out.2 A2 c2' wx B (Nat.le_trans HB0.out hx.size) hm (MAt.below (hx.mono HB0.out) _ _ _ HM.out))
      go_wp2_with fail
      refine (C _ HBB.out).out.mono ?_
      rintro e w2 ⟨A5, c5', rfl, hd, hb2⟩
      have K2 := Lib.hid (K.out.next hb2)
      have HD := Lib.hid hd
      have HB2 := Lib.hid hb2
      clear g0 g1 g2 g3 g4 g5 g6 g7 g8 g9 hd hb2
      obtain ⟨g0, g1, g2, g3, g4, g5, g6, g7, g8, g9⟩ := five_cells K2.out.1
      obtain ⟨h0, h1, h2, h3, h4, h5, h6, h7, h8, h9⟩ := five_cells K2.out.2.1
      have hb2s := HB2.out.size
      clear C
      go_wp2_with fail
      obtain ⟨E1, E2, E3, E4⟩ := copy_end K2.out (.int .i64 k) (.int .i64 n) (.string s) (.slice Ao l.len co) (.slice A5 m.len c5') (.slice Ao l.len co) (.slice A5 m.len c5')
      refine ret_v1 rfl rfl rfl E1 ⟨_, _, _, _, _, rfl, ?_, E2⟩
      obtain ⟨A6, c6, e6, hL6⟩ := row_list HO.out (by have h := HV.out; rwa [VL.take_all] at h)
      injection e6 with e6 _ e7
      subst e6 e7
      have hlow : ∀ b, Value.ownBlock (.slice Ao l.len co) = some b → w.heap.size + 2 ≤ b ∧ b < wr.heap.size := fun b hb => HO.out.lt b hb
      unfold VP
      refine ⟨rfl, rfl, rfl, hs, ⟨_, _, rfl, hl, LP.keep (fun b hb => ?_) _ _ _ hL6⟩, _, _, rfl, hm, MP.keep (fun b hb => ?_) _ _ _ HD.out⟩
      · have hbb : w.heap.size + 2 ≤ b ∧ b < wr.heap.size := by
          rcases hb with hb | hb
          · exact ⟨(HP.out b hb).1, (HP.out b hb).2.1⟩
          · exact hlow b hb
        refine ⟨⟨by omega, by rw [E3]; omega⟩, ?_⟩
        rw [E4 b hbb.1, HB2.out.block b hbb.2]
      · have hb1 := hb.1
        have hb2' := hb.2
        refine ⟨⟨by omega, by rw [E3]; exact hb2'⟩, ?_⟩
        rw [E4 b (by omega)]
    | succ g =>
      have hqn : q < l.len := by omega
      have hqn' : (q : Int) < (l.len : Int) := by omega
      obtain ⟨x, hv⟩ := VL.get_lt hqn
      have hvN := sizeL_get hv
      obtain ⟨b, o, d0, d1, d2, d3, d4, rfl, hblt, hF, hV⟩ := LAt.at (LAt.below (HBB.out.mono HB0.out) _ _ _ HL.out) hv
      rw [Nat.zero_add] at hF
      obtain ⟨f0, f1, f2, f3, f4⟩ := hF
      have C := Lib.hid (HS.out x (by omega) (HSL.out.get hv) d0 d1 d2 d3 d4 wr B (Nat.le_trans HB0.out HBB.out.size) hV)
      have hnx := Lib.hid (VL.take_next hv)
      clear hV hvN hv
      go_wp2_with fail
      refine C.out.mono ?_
      rintro e w2 ⟨e0, e1, e2, e3, e4, rfl, hd, hb2⟩
      have HD := Lib.hid hd
      have hd0 := hd
      obtain ⟨xk, xn, xs', xl, xm⟩ := x
      unfold VP at hd0
      obtain ⟨rfl, rfl, rfl, _, ⟨A3, c3', rfl, _, _⟩, A4, c4', rfl, _, _⟩ := hd0
      have hown2 := own_low HO.out hb2
      have HB2 := Lib.hid hb2
      have hb2s := hb2.size
      clear hb2 hd C g0 g1 g2 g3 g4 g5 g6 g7 g8 g9 f0 f1 f2 f3 f4
      go_wp2_with (at_builtin; refine wpList_append_lies _ rfl _ _ 62 rfl (w.heap.size + 2) 65 i0 (.agg #[.int .i64 0, .int .i64 0, .string ⟨#[]⟩, .slice none 0 0, .slice none 0 0]) 5 80 Try.underlying62 hi hz0 hz1 hz2 rfl (by decide) _ _ _ rfl (hown2.alloc _) _ 1 1 [.int .i64 xk, .int .i64 xn, .string xs', .slice A3 xl.len c3', .slice A4 xm.len c4'] rfl rfl (five_new _ _ _ _ _ _ _ (by simp)) (by intro y hy; simp at hy; rcases hy with rfl | rfl | rfl | rfl | rfl <;> rfl) (by decide) (by unfold maxLen; omega) (by omega) (by simp; omega) _ rfl ?_; intro gg cap2 w4 hown4 hgrow hat hlt4; have HG4 := Lib.hid hgrow; have HO4 := Lib.hid hown4; have HT4 := Lib.hid hat; clear hgrow hown4 hat hown2)
      go_roundg g
      case measure => omega
      case rel => exact ⟨q + 1, by omega, by go_num, K.out.app HB2.out HO.out HG4.out, vaside (by rw [hnx.out]; exact RT.next K.out.2.2.2 HO.out HV.out HP.out HB2.out HD.out HO4.out HG4.out HT4.out)⟩
end Go.Proofs.Ytmamgaifpjgfkaa
