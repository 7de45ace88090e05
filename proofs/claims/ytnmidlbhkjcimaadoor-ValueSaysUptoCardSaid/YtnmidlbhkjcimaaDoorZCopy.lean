/- The walk of seinekeep.Value: a copy of a value, from that of its parts. -/
import Derived.Test.YtnmidlbhkjcimaaDoorZVal
import Derived.Test.YtnmidlbhkjcimaaDoorVGet
import Derived.Test.YtnmidlbhkjcimaaDoorZWrite
namespace Go.Proofs.YtnmidlbhkjcimaaDoor
open Go.RowKit

/-- The box and the result's block. -/
def KQ (w : World) (c0 c1 c2 c3 c4 : Value) (W : World) : Prop := W.heap[w.heap.size]? = some (.cells #[c0, c1, c2, c3, c4] 25 (0, 0)) ∧ W.heap[w.heap.size + 1]? = some (.cells #[.int .i64 0, .int .i64 0, .string ⟨#[]⟩, .slice none 0 0, .slice none 0 0] 25 (0, 0)) ∧ Below w.heap.size w W ∧ w.heap.size + 2 ≤ W.heap.size
theorem KQ.start (w : World) (c0 c1 c2 c3 c4 : Value) : KQ w c0 c1 c2 c3 c4 ((w.alloc (.cells #[c0, c1, c2, c3, c4] 25)).alloc (.cells #[.int .i64 0, .int .i64 0, .string ⟨#[]⟩, .slice none 0 0, .slice none 0 0] 25)) := by
  refine ⟨?_, heap_alloc2_new _ _ _, ((Below.refl _ _).alloc (Nat.le_refl _) _).alloc (by simp) _, by simp⟩
  rw [Below.heap_alloc _ _ _ (by simp)]
  exact heap_alloc_new _ _
theorem KQ.grown {w W W' : World} {c0 c1 c2 c3 c4 : Value} (h : KQ w c0 c1 c2 c3 c4 W) (hb : ∀ b, b < w.heap.size + 2 → W'.heap[b]? = W.heap[b]?) (hw : Below w.heap.size w W') (hs : W.heap.size ≤ W'.heap.size) : KQ w c0 c1 c2 c3 c4 W' :=
  ⟨(hb _ (by omega)).trans h.1, (hb _ (by omega)).trans h.2.1, hw, Nat.le_trans h.2.2.2 hs⟩
theorem KQ.next {w W W' : World} {c0 c1 c2 c3 c4 : Value} (h : KQ w c0 c1 c2 c3 c4 W) (hb : Below W.heap.size W W') : KQ w c0 c1 c2 c3 c4 W' :=
  h.grown (fun b hl => hb.block b (Nat.lt_of_lt_of_le hl h.2.2.2)) (h.2.2.1.trans (hb.mono h.2.2.1.size)) hb.size
theorem KQ.app {w W w2 w4 : World} {c0 c1 c2 c3 c4 V : Value} {o : Obj} {q : Nat} {xs : List Value} (h : KQ w c0 c1 c2 c3 c4 W) (hb : Below W.heap.size W w2) (hown : W.ownsRow (w.heap.size + 2) 25 5 V q xs) (hg : (w2.alloc o).grownBy w4 V.ownBlock) : KQ w c0 c1 c2 c3 c4 w4 := by
  have K2 := (h.next hb).next (W' := w2.alloc o) ((Below.refl _ _).alloc (Nat.le_refl _) _)
  exact K2.grown (fun b hl => hg.block b (Nat.lt_of_lt_of_le hl K2.2.2.2) (fun e => by have := (hown.lt b e.symm).1; omega)) (K2.2.2.1.grown hg K2.2.2.1.size (fun k hk => by have := (hown.lt k hk).1; omega)) hg.size
theorem five_cells {w : World} {b : Nat} {c0 c1 c2 c3 c4 : Value} (h : w.heap[b]? = some (.cells #[c0, c1, c2, c3, c4] 25 (0, 0))) : w.cell? ⟨b, 0, none⟩ = some c0 ∧ w.cell? ⟨b, 1, none⟩ = some c1 ∧ w.cell? ⟨b, 2, none⟩ = some c2 ∧ w.cell? ⟨b, 3, none⟩ = some c3 ∧ w.cell? ⟨b, 4, none⟩ = some c4 ∧ w.frozen? ⟨b, 0, none⟩ = false ∧ w.frozen? ⟨b, 1, none⟩ = false ∧ w.frozen? ⟨b, 2, none⟩ = false ∧ w.frozen? ⟨b, 3, none⟩ = false ∧ w.frozen? ⟨b, 4, none⟩ = false := by
  simp [World.cell?, World.frozen?, h]
/-- The last stores. -/
theorem copy_end {w w2 : World} {c0 c1 c2 c3 c4 : Value} (h : KQ w c0 c1 c2 c3 c4 w2) (x0 x1 x2 x3 x4 a3 a4 : Value) :
    (((((((w2.setCell ⟨w.heap.size, 3, none⟩ a3).setCell ⟨w.heap.size, 4, none⟩ a4).setCell ⟨w.heap.size + 1, 0, none⟩ x0).setCell ⟨w.heap.size + 1, 1, none⟩ x1).setCell ⟨w.heap.size + 1, 2, none⟩ x2).setCell ⟨w.heap.size + 1, 3, none⟩ x3).setCell ⟨w.heap.size + 1, 4, none⟩ x4).heap[w.heap.size + 1]? = some (.cells #[x0, x1, x2, x3, x4] 25 (0, 0)) ∧
    Below w.heap.size w (((((((w2.setCell ⟨w.heap.size, 3, none⟩ a3).setCell ⟨w.heap.size, 4, none⟩ a4).setCell ⟨w.heap.size + 1, 0, none⟩ x0).setCell ⟨w.heap.size + 1, 1, none⟩ x1).setCell ⟨w.heap.size + 1, 2, none⟩ x2).setCell ⟨w.heap.size + 1, 3, none⟩ x3).setCell ⟨w.heap.size + 1, 4, none⟩ x4) ∧
    (((((((w2.setCell ⟨w.heap.size, 3, none⟩ a3).setCell ⟨w.heap.size, 4, none⟩ a4).setCell ⟨w.heap.size + 1, 0, none⟩ x0).setCell ⟨w.heap.size + 1, 1, none⟩ x1).setCell ⟨w.heap.size + 1, 2, none⟩ x2).setCell ⟨w.heap.size + 1, 3, none⟩ x3).setCell ⟨w.heap.size + 1, 4, none⟩ x4).heap.size = w2.heap.size ∧
    ∀ b, w.heap.size + 2 ≤ b → (((((((w2.setCell ⟨w.heap.size, 3, none⟩ a3).setCell ⟨w.heap.size, 4, none⟩ a4).setCell ⟨w.heap.size + 1, 0, none⟩ x0).setCell ⟨w.heap.size + 1, 1, none⟩ x1).setCell ⟨w.heap.size + 1, 2, none⟩ x2).setCell ⟨w.heap.size + 1, 3, none⟩ x3).setCell ⟨w.heap.size + 1, 4, none⟩ x4).heap[b]? = w2.heap[b]? := by
  refine ⟨?_, ?_, ?_, fun b hb => ?_⟩
  · simp [World.setCell, Array.getElem?_modify, h.2.1]
  · exact ((((((h.2.2.1.setCell (Nat.le_refl _) _).setCell (Nat.le_refl _) _).setCell (Nat.le_succ _) _).setCell (Nat.le_succ _) _).setCell (Nat.le_succ _) _).setCell (Nat.le_succ _) _).setCell (Nat.le_succ _) _
  · simp [World.setCell]
  · have n0 : b ≠ w.heap.size := by omega
    have n1 : b ≠ w.heap.size + 1 := by omega
    rw [Below.heap_setCell _ _ _ _ n1, Below.heap_setCell _ _ _ _ n1, Below.heap_setCell _ _ _ _ n1, Below.heap_setCell _ _ _ _ n1, Below.heap_setCell _ _ _ _ n1, Below.heap_setCell _ _ _ _ n0, Below.heap_setCell _ _ _ _ n0]

set_option maxRecDepth 100000 in
set_option maxHeartbeats 8000000 in
theorem copy_step (N : Nat) (H : ∀ u, sizeV u ≤ N → SlimV u → CopyC u) (HMem : ∀ m, sizeM m ≤ N → m.len * 96 ≤ 140737488355328 → SlimM m → CopyM m) : ∀ u, sizeV u ≤ N + 1 → SlimV u → CopyC u := by
  intro u hu hslim c0 c1 c2 c3 c4 w B hB h1
  obtain ⟨i0, hi, hz0, hz1, hz2⟩ := info_parts info_val
  have HS := Lib.hid H
  have HMB := Lib.hid HMem
  have HB0 := Lib.hid hB
  clear H HMem hB
  obtain ⟨k, n, s, l, m⟩ := u
  rw [sizeV] at hu
  unfold VAt at h1
  obtain ⟨rfl, rfl, rfl, hs, ⟨A, c, rfl, hl, hL⟩, A2, c2', rfl, hm, hM⟩ := h1
  have HL := Lib.hid hL
  have HM := Lib.hid hM
  unfold SlimV at hslim
  have hll := hslim.1
  have HSL := Lib.hid hslim.2.2.1
  have HSM := Lib.hid hslim.2.2
  have hml := hslim.2.1
  clear hslim
  clear hL hM
  go_enter Tryd.func6, Tryd.ntmps6
  go_wp2_with fail
  go_loopg [3, 4] l.len (fun g out i wx => ∃ q : Nat, q + g = l.len ∧ i = .int .i64 q ∧ KQ w (.int .i64 k) (.int .i64 n) (.string s) (.slice A l.len c) (.slice A2 m.len c2') wx ∧ Aside (RT (w.heap.size + 2) wx out q (l.take q)))
  case atStart => exact ⟨0, by omega, rfl, KQ.start _ _ _ _ _ _, vaside (by rw [VL.take_zero]; exact RT.start _ _)⟩
  case round =>
    obtain ⟨q, hq, rfl, hK, HA⟩ := hrel
    have K := Lib.hid hK
    have HBB := Lib.hid hK.2.2.1
    obtain ⟨g0, g1, g2, g3, g4, g5, g6, g7, g8, g9⟩ := five_cells hK.1
    obtain ⟨xs, P, hown, hvals, hP⟩ := HA.out
    obtain ⟨Ao, co, rfl⟩ := shape_own hown
    have HO := Lib.hid hown
    have HV := Lib.hid hvals
    have HP := Lib.hid hP
    have hws := hK.2.2.2
    clear hK hvals hP HA hown
    cases gk with
    | zero =>
      obtain rfl : q = l.len := by omega
      have C := fun (wx : World) (hx : Below w.heap.size w wx) => Lib.hid (HMB.out m (by omega) hml HSM.out.2 A2 c2' wx B (Nat.le_trans HB0.out hx.size) hm (MAt.below (hx.mono HB0.out) _ _ _ HM.out))
      go_wp2_with fail
      refine (C _ HBB.out).out.mono ?_
      rintro e w2 ⟨A5, c5', rfl, hd, hb2⟩
      have K2 := Lib.hid (K.out.next hb2)
      have HD := Lib.hid hd
      have HB2 := Lib.hid hb2
      clear g0 g1 g2 g3 g4 g5 g6 g7 g8 g9 hd hb2
      obtain ⟨g0, g1, g2, g3, g4, g5, g6, g7, g8, g9⟩ := five_cells K2.out.1
      obtain ⟨h0, h1, h2, h3, h4, h5, h6, h7, h8, h9⟩ := five_cells K2.out.2.1
      have hb2s := HB2.out.size
      clear C
      go_wp2_with fail
      obtain ⟨E1, E2, E3, E4⟩ := copy_end K2.out (.int .i64 k) (.int .i64 n) (.string s) (.slice Ao l.len co) (.slice A5 m.len c5') (.slice Ao l.len co) (.slice A5 m.len c5')
      refine ret_v1 rfl rfl rfl E1 ⟨_, _, _, _, _, rfl, ?_, E2⟩
      obtain ⟨A6, c6, e6, hL6⟩ := row_list HO.out (by have h := HV.out; rwa [VL.take_all] at h)
      injection e6 with e6 _ e7
      subst e6 e7
      have hlow : ∀ b, Value.ownBlock (.slice Ao l.len co) = some b → w.heap.size + 2 ≤ b ∧ b < wr.heap.size := fun b hb => HO.out.lt b hb
      unfold VP
      refine ⟨rfl, rfl, rfl, hs, ⟨_, _, rfl, hl, LP.keep (fun b hb => ?_) _ _ _ hL6⟩, _, _, rfl, hm, MP.keep (fun b hb => ?_) _ _ _ HD.out⟩
      · have hbb : w.heap.size + 2 ≤ b ∧ b < wr.heap.size := by
          rcases hb with hb | hb
          · exact ⟨(HP.out b hb).1, (HP.out b hb).2.1⟩
          · exact hlow b hb
        refine ⟨⟨by omega, by rw [E3]; omega⟩, ?_⟩
        rw [E4 b hbb.1, HB2.out.block b hbb.2]
      · have hb1 := hb.1
        have hb2' := hb.2
        refine ⟨⟨by omega, by rw [E3]; exact hb2'⟩, ?_⟩
        rw [E4 b (by omega)]
    | succ g =>
      have hqn : q < l.len := by omega
      have hqn' : (q : Int) < (l.len : Int) := by omega
      obtain ⟨x, hv⟩ := VL.get_lt hqn
      have hvN := sizeL_get hv
      obtain ⟨b, o, d0, d1, d2, d3, d4, rfl, hblt, hF, hV⟩ := LAt.at (LAt.below (HBB.out.mono HB0.out) _ _ _ HL.out) hv
      rw [Nat.zero_add] at hF
      obtain ⟨f0, f1, f2, f3, f4⟩ := hF
      have C := Lib.hid (HS.out x (by omega) (HSL.out.get hv) d0 d1 d2 d3 d4 wr B (Nat.le_trans HB0.out HBB.out.size) hV)
      have hnx := Lib.hid (VL.take_next hv)
      clear hV hvN hv
      go_wp2_with fail
      refine C.out.mono ?_
      rintro e w2 ⟨e0, e1, e2, e3, e4, rfl, hd, hb2⟩
      have HD := Lib.hid hd
      have hd0 := hd
      obtain ⟨xk, xn, xs', xl, xm⟩ := x
      unfold VP at hd0
      obtain ⟨rfl, rfl, rfl, _, ⟨A3, c3', rfl, _, _⟩, A4, c4', rfl, _, _⟩ := hd0
      have hown2 := own_low HO.out hb2
      have HB2 := Lib.hid hb2
      have hb2s := hb2.size
      clear hb2 hd C g0 g1 g2 g3 g4 g5 g6 g7 g8 g9 f0 f1 f2 f3 f4
      go_wp2_with (at_builtin; refine wpList_append_lies _ rfl _ _ 22 rfl (w.heap.size + 2) 25 i0 (.agg #[.int .i64 0, .int .i64 0, .string ⟨#[]⟩, .slice none 0 0, .slice none 0 0]) 5 80 Tryd.underlying22 hi hz0 hz1 hz2 rfl (by decide) _ _ _ rfl (hown2.alloc _) _ 1 1 [.int .i64 xk, .int .i64 xn, .string xs', .slice A3 xl.len c3', .slice A4 xm.len c4'] rfl rfl (five_new _ _ _ _ _ _ _ (by simp)) (by intro y hy; simp at hy; rcases hy with rfl | rfl | rfl | rfl | rfl <;> rfl) (by decide) (by unfold maxLen; omega) (by omega) (by simp; omega) _ rfl ?_; intro gg cap2 w4 hown4 hgrow hat hlt4; have HG4 := Lib.hid hgrow; have HO4 := Lib.hid hown4; have HT4 := Lib.hid hat; clear hgrow hown4 hat hown2)
      go_roundg g
      case measure => omega
      case rel => exact ⟨q + 1, by omega, by go_num, K.out.app HB2.out HO.out HG4.out, vaside (by rw [hnx.out]; exact RT.next K.out.2.2.2 HO.out HV.out HP.out HB2.out HD.out HO4.out HG4.out HT4.out)⟩
end Go.Proofs.YtnmidlbhkjcimaaDoor
/- The walk of seinekeep.Members, and both together. -/
namespace Go.Proofs.YtnmidlbhkjcimaaDoor
open Go.RowKit

/-- A member's six cells. -/
def Mem6 (W : World) (b O : Nat) (nm d0 d1 d2 d3 d4 : Value) : Prop := W.cell? ⟨b, O, none⟩ = some nm ∧ W.cell? ⟨b, O + 1, none⟩ = some d0 ∧ W.cell? ⟨b, O + 1 + 1, none⟩ = some d1 ∧ W.cell? ⟨b, O + 1 + 2, none⟩ = some d2 ∧ W.cell? ⟨b, O + 1 + 3, none⟩ = some d3 ∧ W.cell? ⟨b, O + 1 + 4, none⟩ = some d4
theorem Mem6.next {W W' : World} {b O : Nat} {nm d0 d1 d2 d3 d4 : Value} (h : Mem6 W b O nm d0 d1 d2 d3 d4) (hb : W'.heap[b]? = W.heap[b]?) : Mem6 W' b O nm d0 d1 d2 d3 d4 :=
  ⟨(World.cell?_of_block (a := ⟨b, _, none⟩) hb).trans h.1, (World.cell?_of_block (a := ⟨b, _, none⟩) hb).trans h.2.1, (World.cell?_of_block (a := ⟨b, _, none⟩) hb).trans h.2.2.1, (World.cell?_of_block (a := ⟨b, _, none⟩) hb).trans h.2.2.2.1, (World.cell?_of_block (a := ⟨b, _, none⟩) hb).trans h.2.2.2.2.1, (World.cell?_of_block (a := ⟨b, _, none⟩) hb).trans h.2.2.2.2.2⟩

set_option maxRecDepth 100000 in
set_option maxHeartbeats 8000000 in
theorem copym_step (N : Nat) (H : ∀ u, sizeV u ≤ N → SlimV u → CopyC u) : ∀ m, sizeM m ≤ N → m.len * 96 ≤ 140737488355328 → SlimM m → CopyM m := by
  intro m hmN hll hslim A c w B hB hm hM
  obtain ⟨i0, hi, hz0, hz1, hz2⟩ := info_parts info_mem
  have HS := Lib.hid H
  have HB0 := Lib.hid hB
  have HM := Lib.hid hM
  have HSM := Lib.hid hslim
  clear hslim
  clear H hB hM
  go_enter Tryd.func20, Tryd.ntmps20
  go_wp2_with fail
  go_loopg [3, 4] m.len (fun g out i wx => ∃ q : Nat, q + g = m.len ∧ i = .int .i64 q ∧ Below w.heap.size w wx ∧ Aside (RM w.heap.size wx out q (m.take q)))
  case atStart => exact ⟨0, by omega, rfl, Below.refl _ _, vaside (by rw [VM.take_zero]; exact RM.start _ _)⟩
  case round =>
    obtain ⟨q, hq, rfl, hb, HA⟩ := hrel
    have HBB := Lib.hid hb
    have hws := hb.size
    obtain ⟨xs, P, hown, hvals, hP⟩ := HA.out
    obtain ⟨Ao, co, rfl⟩ := shape_own hown
    have HO := Lib.hid hown
    have HV := Lib.hid hvals
    have HP := Lib.hid hP
    clear hb hvals hP HA hown
    cases gk with
    | zero =>
      obtain rfl : q = m.len := by omega
      go_wp2_with fail
      go_ret
      obtain ⟨A6, c6, e6, hL6⟩ := row_members HO.out (by have h := HV.out; rwa [VM.take_all] at h)
      refine ⟨A6, c6, by rw [← e6]; rfl, MP.keep (fun b hb => ⟨?_, rfl⟩) _ _ _ hL6, HBB.out⟩
      rcases hb with hb | hb
      · exact ⟨(HP.out b hb).1, (HP.out b hb).2.1⟩
      · exact HO.out.lt b hb
    | succ g =>
      have hqn : q < m.len := by omega
      have hqn' : (q : Int) < (m.len : Int) := by omega
      obtain ⟨⟨nm, x⟩, hv⟩ := VM.get_lt hqn
      have hvN := sizeM_get hv
      obtain ⟨b, o, d0, d1, d2, d3, d4, rfl, hblt, hnm, hns, hF, hV⟩ := MAt.at (MAt.below (HBB.out.mono HB0.out) _ _ _ HM.out) hv
      rw [Nat.zero_add] at hF hnm
      have hbw : b < w.heap.size := Nat.lt_of_lt_of_le hblt HB0.out
      have h6 : Mem6 wr b (o + q * 6) (.string nm) d0 d1 d2 d3 d4 := ⟨hnm, hF.1, hF.2.1, hF.2.2.1, hF.2.2.2.1, hF.2.2.2.2⟩
      obtain ⟨f0, f1, f2, f3, f4⟩ := hF
      have C := fun (wx : World) (hx : Below wr.heap.size wr wx) => Lib.hid (HS.out x (by omega) (HSM.out.get hv) d0 d1 d2 d3 d4 wx B (Nat.le_trans HB0.out (Nat.le_trans HBB.out.size hx.size)) (VAt.below (hx.mono (Nat.le_trans HB0.out HBB.out.size)) _ _ _ _ _ _ hV))
      have hnx := Lib.hid (VM.take_next hv)
      have hno := fun (wx : World) (hx : Below wr.heap.size wr wx) => own_low HO.out hx
      clear hV hvN hv
      go_wp2_with fail
      go_region_held3 (fun w' => w'.cell? ⟨b, o + q * 6, none⟩ = some (.string nm) ∧ w'.cell? ⟨b, o + q * 6 + 1, none⟩ = some d0 ∧ w'.cell? ⟨b, o + q * 6 + 1 + 1, none⟩ = some d1 ∧ w'.cell? ⟨b, o + q * 6 + 1 + 2, none⟩ = some d2 ∧ w'.cell? ⟨b, o + q * 6 + 1 + 3, none⟩ = some d3 ∧ w'.cell? ⟨b, o + q * 6 + 1 + 4, none⟩ = some d4)
        (first
          | exact Mem6.next h6 rfl
          | exact Mem6.next (W := wr.drew) h6 (hb2.block b (by show b < wr.heap.size; omega))
          | exact Mem6.next (W := wr.drew) h6 ((hgrow.block b (by have := hb2.size; simp at this ⊢; omega) (fun e => by have := (HO.out.lt b e.symm).1; omega)).trans ((Below.heap_alloc _ _ _ (by have := hb2.size; simp at this; omega)).trans (hb2.block b (by show b < wr.heap.size; omega))))
          | go_keep)
        ((first
          | (go_at_call 6; refine (C _ (Below.drew (Below.refl _ _))).out.mono ?_; rintro e w2 ⟨e0, e1, e2, e3, e4, rfl, hd, hb2⟩; have HD := Lib.hid hd; obtain ⟨xk, xn, xs', xl, xm⟩ := x; unfold VP at hd; obtain ⟨rfl, rfl, rfl, _, ⟨A3, c3', rfl, _, _⟩, A4, c4', rfl, _, _⟩ := hd)
          | (refine step_append_lies _ (by rfl) _ _ _ (by rfl) w.heap.size 39 i0 _ 6 96 Tryd.underlying23 hi hz0 hz1 hz2 rfl (by omega) (.slice Ao q co) q xs (by rfl) ((own_low (HO.out.drew) hb2).alloc _)
              ⟨w2.heap.size, 0, none⟩ 1 1 [.string nm, .int .i64 xk, .int .i64 xn, .string xs', .slice A3 xl.len c3', .slice A4 xm.len c4'] (by rfl) (by rfl) (six_new _ _ _ _ _ _ _ _ (by simp)) (by intro y hy; simp at hy; rcases hy with rfl | rfl | rfl | rfl | rfl | rfl <;> rfl)
              (by omega) (by unfold maxLen; omega) (by omega) (by have := hb2.size; simp at this ⊢; omega) _ (by rfl) ?_; intro gg cap2 w4 hown4 hgrow hat hlt4)))
      have HO4 := Lib.hid hown4
      have HG4 := Lib.hid hgrow
      have HT4 := Lib.hid hat
      have HB2 : Hid (Below wr.heap.size wr w2) := Lib.hid ((Below.drew (Below.refl _ _)).trans hb2)
      have HB4 : Hid (Below w.heap.size w w4) := Lib.hid (((HBB.out.trans (HB2.out.mono HBB.out.size)).alloc (Nat.le_trans HBB.out.size HB2.out.size) _).grown hgrow (by have := HB2.out.size; simp; omega) (fun k hk => (HO.out.lt k hk).1))
      clear C hno hown4 hgrow hat hb2 f0 f1 f2 f3 f4 h6 hnm
      go_wp2_with fail
      go_roundg g
      case measure => omega
      case rel => exact ⟨q + 1, by omega, by go_num, HB4.out, vaside (by rw [hnx.out]; exact RM.next hws HO.out HV.out HP.out hns HB2.out HD.out HO4.out HG4.out HT4.out)⟩

theorem copy_all : ∀ N u, sizeV u ≤ N → SlimV u → CopyC u
  | 0, u, h => by have := sizeV_pos u; omega
  | N + 1, u, h => copy_step N (copy_all N) (copym_step N (copy_all N)) u h
theorem copy_any (u : VT) (h : SlimV u) : CopyC u := copy_all _ u (Nat.le_refl _) h
theorem copym_any (m : VM) (hm : m.len * 96 ≤ 140737488355328) (h : SlimM m) : CopyM m := copym_step _ (copy_all _) m (Nat.le_refl _) hm h
end Go.Proofs.YtnmidlbhkjcimaaDoor
/- The walk of value.write: maps, and all kinds together. -/
namespace Go.Proofs.YtnmidlbhkjcimaaDoor
open Go.RowKit

/-- A member's six cells, in a box. -/
theorem six_at_new (w : World) (a a0 a1 a2 a3 a4 : Value) (t : TypeId) : Mem6 (w.alloc (.cells #[a, a0, a1, a2, a3, a4] t)) w.heap.size 0 a a0 a1 a2 a3 a4 := by
  refine ⟨?_, ?_, ?_, ?_, ?_, ?_⟩ <;> (rw [World.cell?_alloc_at _ _ _ _ rfl]; rfl)
theorem Mem6.below {w w' : World} {b O : Nat} {nm d0 d1 d2 d3 d4 : Value} (h : Mem6 w b O nm d0 d1 d2 d3 d4) (hb : Below w.heap.size w w') (hlt : b < w.heap.size) : Mem6 w' b O nm d0 d1 d2 d3 d4 := h.next (hb.block b hlt)
theorem Mem6.grew {w w' : World} {V V' : Value} {b O : Nat} {nm d0 d1 d2 d3 d4 : Value} (h : Mem6 w b O nm d0 d1 d2 d3 d4) (hg : Grew w w' V V') (hlt : b < w.heap.size) (hV : V.ownBlock ≠ some b) : Mem6 w' b O nm d0 d1 d2 d3 d4 := h.next (hg.1.block b hlt (fun e => hV e.symm))
theorem mem_call {w w2 : World} {nm d0 d1 d2 d3 d4 : Value} {t : TypeId} (hb : Below (w.alloc (.cells #[nm, d0, d1, d2, d3, d4] t)).heap.size (w.alloc (.cells #[nm, d0, d1, d2, d3, d4] t)) w2) : Mem6 w2 w.heap.size 0 nm d0 d1 d2 d3 d4 :=
  (six_at_new w nm d0 d1 d2 d3 d4 t).below hb (by simp)
theorem mem_after {base : Nat} {w w2 w5 : World} {V V' : Value} {ts : List (Int × ByteArray)} {nm d0 d1 d2 d3 d4 : Value} {t : TypeId} {o : Obj} (hT : TR base w V ts) (hb : Below (w.alloc (.cells #[nm, d0, d1, d2, d3, d4] t)).heap.size (w.alloc (.cells #[nm, d0, d1, d2, d3, d4] t)) w2) (g5 : Grew (w2.alloc o) w5 V V') : Mem6 w5 w.heap.size 0 nm d0 d1 d2 d3 d4 := by
  have hs : (w.alloc (.cells #[nm, d0, d1, d2, d3, d4] t)).heap.size = w.heap.size + 1 := by simp
  have h2 := hb.size
  have h3 := (mem_call hb).below (alloc_same w2 o) (by omega)
  exact h3.grew g5 (by simp; omega) (fun e => by have := (hT.lt w.heap.size e).2; omega)
theorem mem_write {base : Nat} {w w2 w5 w6 : World} {V V' V'' : Value} {ts : List (Int × ByteArray)} {nm d0 d1 d2 d3 d4 : Value} {t : TypeId} {o : Obj} (hT : TR base w V ts) (hb : Below (w.alloc (.cells #[nm, d0, d1, d2, d3, d4] t)).heap.size (w.alloc (.cells #[nm, d0, d1, d2, d3, d4] t)) w2) (g5 : Grew (w2.alloc o) w5 V V') (g6 : Grew w5 w6 V' V'') : Mem6 w6 w.heap.size 0 nm d0 d1 d2 d3 d4 := by
  have hs : (w.alloc (.cells #[nm, d0, d1, d2, d3, d4] t)).heap.size = w.heap.size + 1 := by simp
  have h2 := hb.size
  have h5 := g5.1.size
  have h6 : (w2.alloc o).heap.size = w2.heap.size + 1 := by simp
  refine (mem_after hT hb g5).grew g6 (by omega) (fun e => ?_)
  rcases g5.2 w.heap.size e with h | h
  · have := (hT.lt w.heap.size h).2; omega
  · omega

set_option maxRecDepth 100000 in
set_option maxHeartbeats 8000000 in
theorem write_map (N : Nat) (H : ∀ u, sizeV u ≤ N → WriteC u) (n : Int) (s : ByteArray) (l : VL) (m : VM) (hN : sizeV (.mk 7 n s l m) ≤ N + 1) : WriteC (.mk 7 n s l m) := by
  intro c0 c1 c2 c3 c4 w base V ts hB hv hT hlen hz hK hfit hrng
  have hN' : sizeM m ≤ N := by rw [sizeV] at hN; omega
  have hz' : sizeM m ≤ 9000 := by rw [sizeV] at hz; omega
  have hlen2 : ts.length + 4 + 4 * sizeM m ≤ 200000 := by rw [sizeV] at hlen; omega
  rw [fitV, Bool.and_eq_true, Bool.and_eq_true] at hfit
  unfold RngV at hrng
  have hff := Lib.hid hfit.2
  have hrr := Lib.hid hrng.2.2
  unfold VAt at hv
  obtain ⟨rfl, rfl, rfl, _, ⟨A, c, rfl, hl, hL⟩, A', c', rfl, hm, hM⟩ := hv
  have HB := Lib.hid hB
  have HT := Lib.hid hT
  have HS := Lib.hid hlen2
  have HH := Lib.hid H
  have HM := Lib.hid hM
  have HK := Lib.hid hK
  have HN := Lib.hid hN'
  have HZ := Lib.hid hz'
  have h1 := Lib.hid (alloc_same w (.cells #[.int .i64 7, .int .i64 n, .string s, .slice A l.len c, .slice A' m.len c'] 25))
  have hc : (w.alloc (.cells #[.int .i64 7, .int .i64 n, .string s, .slice A l.len c, .slice A' m.len c'] 25)).cell? ⟨w.heap.size, 4, none⟩ = some (.slice A' m.len c') := by rw [World.cell?_alloc_at _ _ _ _ rfl]; rfl
  have HC := Lib.hid hc
  have htk : Hid (vtok (.mk 7 n s l m) = (1, openM) :: (vtokM m ++ [(1, shutM)])) := Lib.hid (vtok7 _ _ _ _)
  clear hL hB hT hK hlen hlen2 hfit hrng hc hz hN hM H hz' hN'
  go_enter Tryd.func21, Tryd.ntmps21
  go_wp2_with fail
  refine (vpunct_any _ _).mono ?_
  rintro e w2 ⟨rfl, hb2⟩
  have hc2 := Lib.hid (box_call hb2 HC.out)
  have B2' := Lib.hid hb2
  have B2 := Lib.hid (two_below h1.out hb2)
  clear hb2
  go_wp2_with (at_builtin; refine wpList_append_tok rfl _ _ rfl base _ ts rfl ((HT.out.low B2.out).low (alloc_same _ _)) _ _ _ [(1, openM)] rfl rfl (tok_new1 _ _ _ _ (by first | rfl | (simp; done))) (by omega) (by have := HS.out; omega) (Nat.le_trans HB.out (Nat.le_trans B2.out.size (alloc_same _ _).size)) ?_; intro v5 w5 h5 g5; have H5 := Lib.hid h5; have G5 := Lib.hid ((Grew.of_below (two_below B2.out (alloc_same _ _))).trans g5); have hc5 := box_after HT.out B2'.out g5 HC.out; clear h5 g5)
  go_loopg [0, 100] m.len (fun g vq i wx => ∃ q : Nat, q + g = m.len ∧ i = .int .i64 q ∧ Aside (TR base wx vq (ts ++ (1, openM) :: vtokM (m.take q)) ∧ Grew w wx V vq))
  case atStart => exact ⟨0, by omega, rfl, vaside ⟨by rw [VM.take_zero, vtokM]; exact H5.out, G5.out⟩⟩
  case round =>
    obtain ⟨q, hq, rfl, HA⟩ := hrel
    rename_i vq _
    have HTq := Lib.hid HA.1
    have HGq := Lib.hid HA.2
    have hwr := HA.2.1.size
    have HBq := Lib.hid (HA.2.base HT.out HB.out)
    clear HA H5 G5 hc5
    cases gk with
    | zero =>
      obtain rfl : q = m.len := by omega
      have hT2 := HTq.out
      rw [VM.take_all] at hT2
      have HT2 := Lib.hid hT2
      have hll := Lib.hid (vtokM_len m)
      clear hT2 HTq
      go_wp2_with fail
      refine (vpunct_any _ _).mono ?_
      rintro e w6 ⟨rfl, hb6⟩
      have B6 := Lib.hid hb6
      clear hb6
      go_wp2_with (at_builtin; refine wpList_append_tok rfl _ _ rfl base _ _ rfl ((HT2.out.low B6.out).low (alloc_same _ _)) _ _ _ [(1, shutM)] rfl rfl (tok_new1 _ _ _ _ (by first | rfl | (simp; done))) (by omega) (by have h1 := HS.out; have h2 := hll.out; simp only [List.length_append, List.length_cons]; omega) (Nat.le_trans HB.out (Nat.le_trans hwr (Nat.le_trans B6.out.size (alloc_same _ _).size))) ?_; intro v7 w7 h7 g7; have H7 := Lib.hid h7; have G7 := Lib.hid (HGq.out.trans ((Grew.of_below (two_below B6.out (alloc_same _ _))).trans g7)); clear h7 g7)
      go_ret
      exact write_said htk.out (by have := H7.out; simpa using this) G7.out
    | succ g =>
      have hqn : q < m.len := by omega
      have hqn' : (q : Int) < (m.len : Int) := by omega
      obtain ⟨⟨nm, x⟩, hx⟩ := VM.get_lt hqn
      have hxs := (name_size hx).2
      have hxf := fitM_get hff.out hx
      have hxr := rngM_get hrr.out hx
      have hrm := roomM hx
      have hnx := Lib.hid (VM.take_next hx)
      obtain ⟨b, o, d0, d1, d2, d3, d4, rfl, hblt, hnm, _, hF, hV⟩ := MAt.at (MAt.below HBq.out _ _ _ HM.out) hx
      rw [Nat.zero_add] at hF hnm
      have hBr := Nat.le_trans HB.out hwr
      have C := Lib.hid (HH.out x (by have := HN.out; omega) d0 d1 d2 d3 d4)
      have hV0 := Lib.hid hV
      obtain ⟨xk, xn, xs, xl, xm⟩ := x
      unfold VAt at hV
      obtain ⟨rfl, rfl, rfl, _, ⟨A3, c3', rfl, _, _⟩, A4, c4', rfl, _, _⟩ := hV
      obtain ⟨f0, f1, f2, f3, f4⟩ := hF
      have hnew := Lib.hid (alloc_same wr (.cells #[.string nm, .int .i64 xk, .int .i64 xn, .string xs, .slice A3 xl.len c3', .slice A4 xm.len c4'] 39))
      have hroom : Hid ((ts ++ (1, openM) :: vtokM (m.take q)).length + 2 + 4 * sizeV (.mk xk xn xs xl xm) ≤ 200000) := Lib.hid (by have := HS.out; simp only [List.length_append, List.length_cons]; omega)
      have HW := fun (w5 : World) (v5 : Value) (h5 : TR base w5 v5 ((ts ++ (1, openM) :: vtokM (m.take q)) ++ [(2, nm), (1, colonT)])) (hb5 : Below base wr w5) => Lib.hid (C.out w5 base v5 _ (Nat.le_trans hBr hb5.size) (VAt.below hb5 _ _ _ _ _ _ hV0.out) h5 (by have := hroom.out; simp only [List.length_append, List.length_cons, List.length_nil] at this ⊢; omega) (by have := HZ.out; omega) ((HK.out.below HBq.out).below hb5) hxf hxr)
      have HX := Lib.hid (six_at_new wr (.string nm) (.int .i64 xk) (.int .i64 xn) (.string xs) (.slice A3 xl.len c3') (.slice A4 xm.len c4') 39)
      clear C hxs hxf hxr hrm hx
      go_wp2_with fail
      go_region_held3 (fun w' => w'.cell? ⟨wr.heap.size, 0, none⟩ = some (.string nm) ∧ w'.cell? ⟨wr.heap.size, 1, none⟩ = some (.int .i64 xk) ∧ w'.cell? ⟨wr.heap.size, 2, none⟩ = some (.int .i64 xn) ∧ w'.cell? ⟨wr.heap.size, 3, none⟩ = some (.string xs) ∧ w'.cell? ⟨wr.heap.size, 4, none⟩ = some (.slice A3 xl.len c3') ∧ w'.cell? ⟨wr.heap.size, 5, none⟩ = some (.slice A4 xm.len c4'))
        (first
          | exact HX.out
          | exact mem_call (undrew hbp)
          | exact mem_call (undrew hbw)
          | exact mem_call (two_below (undrew hbp) hbw)
          | exact mem_call (two_below (undrew hbw) hbp)
          | exact mem_after HTq.out (two_below (undrew hbp) hbw) g5
          | exact mem_after HTq.out (two_below (undrew hbw) hbp) g5
          | exact mem_write HTq.out (two_below (undrew hbp) hbw) g5 g6
          | exact mem_write HTq.out (two_below (undrew hbw) hbp) g5 g6
          | go_keep)
        ((first
          | (go_at_call 39; refine (vpunct_any _ _).mono ?_; rintro e wp ⟨rfl, hbp⟩)
          | (go_at_call 35; refine (vword_any _ _).mono ?_; rintro e ww ⟨rfl, hbw⟩)
          | (go_at_call 21; refine (HW _ _ h5 (by first | exact (Grew.base ((Grew.of_below (two_below (two_below hnew.out (two_below (undrew hbp) hbw)) (alloc_same _ _))).trans g5) HTq.out hBr) | exact (Grew.base ((Grew.of_below (two_below (two_below hnew.out (two_below (undrew hbw) hbp)) (alloc_same _ _))).trans g5) HTq.out hBr))).out.mono ?_; rintro e w6 ⟨V6, rfl, h6, g6⟩)
          | (refine step_append_tok (by rfl) _ _ (by rfl) base _ _ (by rfl) ((HTq.out.low (by first | exact two_below hnew.out (two_below (undrew hbp) hbw) | exact two_below hnew.out (two_below (undrew hbw) hbp))).low (alloc_same _ _)) _ 2 2 [(2, nm), (1, colonT)] (by rfl) (by rfl) (tok_new2 _ _ _ _ _ _ rfl) (by omega) (by have := hroom.out; omega) (Nat.le_trans hBr (Nat.le_trans (by first | exact (two_below hnew.out (two_below (undrew hbp) hbw)).size | exact (two_below hnew.out (two_below (undrew hbw) hbp)).size) (alloc_same _ _).size)) ?_; intro v5 w5 h5 g5)))
      all_goals
        have H6 := Lib.hid h6
        have G6 : Hid (Grew w w6 V V6) := Lib.hid (by first | exact HGq.out.trans (((Grew.of_below (two_below (two_below hnew.out (two_below (undrew hbp) hbw)) (alloc_same _ _))).trans g5).trans g6) | exact HGq.out.trans (((Grew.of_below (two_below (two_below hnew.out (two_below (undrew hbw) hbp)) (alloc_same _ _))).trans g5).trans g6))
        clear h5 g5 h6 g6 hbp hbw HW f0 f1 f2 f3 f4
        go_wp2_with fail
        go_roundg g
        case measure => omega
        case rel => exact ⟨q + 1, by omega, by go_num, vaside ⟨by rw [hnx.out, vtokM_snoc]; have := H6.out; simpa using this, G6.out⟩⟩
end Go.Proofs.YtnmidlbhkjcimaaDoor
/- The walk of value.Tokens. -/
namespace Go.Proofs.YtnmidlbhkjcimaaDoor
open Go.RowKit

mutual
theorem VAt.more {w : World} {B B' : Nat} (hb : B ≤ B') : ∀ (v : VT) (c0 c1 c2 c3 c4 : Value), VAt w B v c0 c1 c2 c3 c4 → VAt w B' v c0 c1 c2 c3 c4
  | .mk k n s l m, c0, c1, c2, c3, c4, h => by
    unfold VAt at h ⊢
    obtain ⟨h0, h1, h2, hs, ⟨A, c, h3, g3, h4⟩, A', c', h5, g5, h6⟩ := h
    exact ⟨h0, h1, h2, hs, ⟨A, c, h3, g3, LAt.more hb l A 0 h4⟩, A', c', h5, g5, MAt.more hb m A' 0 h6⟩
theorem LAt.more {w : World} {B B' : Nat} (hb : B ≤ B') : ∀ (l : VL) (A : Option Addr) (j : Nat), LAt w B l A j → LAt w B' l A j
  | .nil, _, _, _ => by unfold LAt; trivial
  | .cons v t, A, j, h => by
    unfold LAt at h ⊢
    obtain ⟨⟨b, o, c0, c1, c2, c3, c4, hA, hlt, hf, hv⟩, ht⟩ := h
    exact ⟨⟨b, o, c0, c1, c2, c3, c4, hA, Nat.lt_of_lt_of_le hlt hb, hf, VAt.more hb v _ _ _ _ _ hv⟩, LAt.more hb t A (j + 1) ht⟩
theorem MAt.more {w : World} {B B' : Nat} (hb : B ≤ B') : ∀ (l : VM) (A : Option Addr) (j : Nat), MAt w B l A j → MAt w B' l A j
  | .nil, _, _, _ => by unfold MAt; trivial
  | .cons nm v t, A, j, h => by
    unfold MAt at h ⊢
    obtain ⟨⟨b, o, c0, c1, c2, c3, c4, hA, hlt, hn, hz, hf, hv⟩, ht⟩ := h
    exact ⟨⟨b, o, c0, c1, c2, c3, c4, hA, Nat.lt_of_lt_of_le hlt hb, hn, hz, hf, VAt.more hb v _ _ _ _ _ hv⟩, MAt.more hb t A (j + 1) ht⟩
end
theorem write_step (N : Nat) (H : ∀ u, sizeV u ≤ N → WriteC u) : ∀ u, sizeV u ≤ N + 1 → WriteC u := by
  intro u hu
  obtain ⟨k, n, s, l, m⟩ := u
  intro c0 c1 c2 c3 c4 w base V ts hB hv hT hlen hz hK hfit hrng
  have hf := hfit
  rw [fitV, Bool.and_eq_true, Bool.and_eq_true] at hf
  rcases sound_kind hf.1.1 with rfl | rfl | rfl | rfl | rfl | rfl | rfl | rfl | rfl
  · exact write_null n s l m c0 c1 c2 c3 c4 w base V ts hB hv hT hlen hz hK hfit hrng
  · exact write_bool n s l m c0 c1 c2 c3 c4 w base V ts hB hv hT hlen hz hK hfit hrng
  · exact write_int n s l m c0 c1 c2 c3 c4 w base V ts hB hv hT hlen hz hK hfit hrng
  · exact write_num n s l m c0 c1 c2 c3 c4 w base V ts hB hv hT hlen hz hK hfit hrng
  · exact write_text n s l m c0 c1 c2 c3 c4 w base V ts hB hv hT hlen hz hK hfit hrng
  · exact write_enum n s l m c0 c1 c2 c3 c4 w base V ts hB hv hT hlen hz hK hfit hrng
  · exact write_list N H n s l m hu c0 c1 c2 c3 c4 w base V ts hB hv hT hlen hz hK hfit hrng
  · exact write_map N H n s l m hu c0 c1 c2 c3 c4 w base V ts hB hv hT hlen hz hK hfit hrng
  · exact write_var n s l m c0 c1 c2 c3 c4 w base V ts hB hv hT hlen hz hK hfit hrng
theorem write_all : ∀ N u, sizeV u ≤ N → WriteC u
  | 0, u, h => by have := sizeV_pos u; omega
  | N + 1, u, h => write_step N (write_all N) u h
/-- The tokens of a value, or none. -/
def toksV (v : VT) : List (Int × ByteArray) := if plainB v = true then vtok v else []
theorem toks_said {w w' : World} {v : VT} {V : Value} {b : Bool} {ts : List (Int × ByteArray)} (hb : plainB v = b) (hk : toksV v = ts) (h : TR w.heap.size w' V ts) (hw : Below w.heap.size w w') : ∃ V', Ending.returned (.tuple #[V, .bool b]) = .returned (.tuple #[V', .bool (plainB v)]) ∧ TR w.heap.size w' V' (toksV v) ∧ Below w.heap.size w w' :=
  ⟨V, by rw [hb], by rw [hk]; exact h, hw⟩
set_option maxRecDepth 100000 in
theorem tokens_any (v : VT) (hz : sizeV v ≤ 9000) (hr : RngV v) (c0 c1 c2 c3 c4 : Value) (w : World) (B : Nat) (hB : B ≤ w.heap.size) (hv : VAt w B v c0 c1 c2 c3 c4) (hw : Laid5 w) :
    Calls Tryd.prog 7 #[.agg #[c0, c1, c2, c3, c4]] w fun e w' => ∃ V', e = .returned (.tuple #[V', .bool (plainB v)]) ∧ TR w.heap.size w' V' (toksV v) ∧ Below w.heap.size w w' := by
  have hWr := write_all _ v (Nat.le_refl _)
  obtain ⟨k, n, s, l, m⟩ := v
  generalize hU : VT.mk k n s l m = U at *
  have HV := Lib.hid hv
  rw [← hU] at hv
  unfold VAt at hv
  obtain ⟨rfl, rfl, rfl, _, ⟨A, c, rfl, hl, hL⟩, A', c', rfl, hm, hM⟩ := hv
  have hb1 := Lib.hid (alloc_same w (.cells #[.int .i64 k, .int .i64 n, .string s, .slice A l.len c, .slice A' m.len c'] 25))
  have HF := Lib.hid (vplain_any U hz _ _ _ _ _ _ B (Nat.le_trans hB hb1.out.size) (VAt.below (hb1.out.mono hB) _ _ _ _ _ _ HV.out) (hw.below hb1.out))
  have HWR := Lib.hid hWr
  have HB0 := Lib.hid hB
  have HZ := Lib.hid hz
  have HR := Lib.hid hr
  have HW := Lib.hid hw
  have hF5 := Lib.hid (five_at_new w (.int .i64 k) (.int .i64 n) (.string s) (.slice A l.len c) (.slice A' m.len c') 25 rfl)
  have hsw : Hid ((w.alloc (.cells #[.int .i64 k, .int .i64 n, .string s, .slice A l.len c, .slice A' m.len c'] 25)).heap.size = w.heap.size + 1) := Lib.hid (by simp)
  clear hL hM hU hw hz hB hWr hr
  cases hf : plainB U with
  | false =>
    have hk : Hid (toksV U = []) := Lib.hid (by unfold toksV; rw [hf]; simp)
    have hpb := Lib.hid hf
    rw [hf] at HF
    clear hf
    go_enter Tryd.func7, Tryd.ntmps7
    go_wp2_with fail
    refine HF.out.mono ?_
    rintro e w2 ⟨rfl, hb2⟩
    have HB2 := Lib.hid (hb1.out.trans (hb2.mono hb1.out.size))
    clear hb2
    go_wp2_with fail
    go_ret2
    rw [← hpb.out]
    exact toks_said rfl hk.out (TR.nil _ _) HB2.out
  | true =>
    have hk : Hid (toksV U = vtok U) := Lib.hid (by unfold toksV; rw [hf]; simp)
    have hpb := Lib.hid hf
    have hfit : Hid (fitV nameB U = true) := Lib.hid (by unfold plainB at hf; rw [Bool.and_eq_true] at hf; exact hf.1)
    rw [hf] at HF
    clear hf
    go_enter Tryd.func7, Tryd.ntmps7
    go_wp2_with fail
    refine HF.out.mono ?_
    rintro e w2 ⟨rfl, hb2⟩
    have hb3 := hb1.out.trans (hb2.mono hb1.out.size)
    have HB2 := Lib.hid hb3
    have hs2 := hb3.size
    obtain ⟨e0, e1, e2, e3, e4⟩ := hF5.out.below hb2 (by rw [hsw.out]; omega)
    clear hb2 hb3
    go_wp2_with fail
    refine (HWR.out _ _ _ _ _ w2 w.heap.size _ [] hs2 (VAt.more HB0.out _ _ _ _ _ _ (VAt.below (HB2.out.mono HB0.out) _ _ _ _ _ _ HV.out)) (TR.nil _ _) (by have := HZ.out; simp only [List.length_nil]; omega) HZ.out ⟨w, HW.out, Nat.le_refl _, HB2.out⟩ hfit.out HR.out).mono ?_
    rintro e w3 ⟨V3, rfl, h3, g3⟩
    have H3 := Lib.hid h3
    have HB3 := Lib.hid (HB2.out.trans (g3.base (TR.nil w.heap.size w2) hs2))
    clear h3 g3 e0 e1 e2 e3 e4
    go_wp2_with fail
    go_ret2
    rw [← hpb.out]
    exact toks_said rfl hk.out (by have := H3.out; rwa [List.nil_append] at this) HB3.out
end Go.Proofs.YtnmidlbhkjcimaaDoor
/- The law's own example. -/
namespace Go.Proofs.YtnmidlbhkjcimaaDoor
open Go.RowKit

def exInt : VT := .mk 2 1 ⟨#[]⟩ .nil .nil
def exVar : VT := .mk 8 0 ⟨#[97]⟩ .nil .nil
def exV : VT := .mk 6 0 ⟨#[]⟩ (.cons exInt (.cons exVar .nil)) .nil
def exEnum : VT := .mk 5 0 ⟨#[116, 114, 117, 101]⟩ .nil .nil
theorem ex_plain : plainB exV = true := by decide +kernel
theorem ex_good : fitV goodB exV = true := by decide +kernel
theorem ex_bad : fitV goodB exEnum = false := by decide +kernel
theorem ex_dep : depV exV = 1 := by decide +kernel
theorem ex_size : sizeV exV ≤ 9000 := by decide +kernel
theorem ex_size2 : sizeV exEnum ≤ 9000 := by decide +kernel
theorem ex_rng : RngV exV := by
  unfold exV RngV
  refine ⟨by omega, ?_, by unfold RngM; trivial⟩
  unfold RngL
  refine ⟨by unfold exInt RngV; exact ⟨by omega, by unfold RngL; trivial, by unfold RngM; trivial⟩, ?_⟩
  unfold RngL
  exact ⟨by unfold exVar RngV; exact ⟨by omega, by unfold RngL; trivial, by unfold RngM; trivial⟩, by unfold RngL; trivial⟩
theorem ex_toks : toksV exV = [(1, openT), (3, itoaT 1), (1, dollarT), (2, ⟨#[97]⟩), (1, shutT)] := by
  unfold toksV
  rw [ex_plain, if_pos rfl]
  unfold exV exInt exVar
  rw [vtok6, vtokL, vtokL, vtokL, vtok2, vtok8]
  rfl
theorem leafAt (w : World) (B : Nat) (k n : Int) (s : ByteArray) (hs : s.size ≤ 9223372036854775807) : VAt w B (.mk k n s .nil .nil) (.int .i64 k) (.int .i64 n) (.string s) (.slice none 0 0) (.slice none 0 0) := by
  unfold VAt
  exact ⟨rfl, rfl, rfl, hs, ⟨none, 0, rfl, by simp [VL.len], by unfold LAt; trivial⟩, none, 0, rfl, by simp [VM.len], by unfold MAt; trivial⟩
abbrev exCells : Array Value := #[.int .i64 2, .int .i64 1, .string ⟨#[]⟩, .slice none 0 0, .slice none 0 0, .int .i64 8, .int .i64 0, .string ⟨#[97]⟩, .slice none 0 0, .slice none 0 0]
theorem exAt (w : World) (t : TypeId) : VAt (w.alloc (.cells exCells t)) (w.heap.size + 1) exV (.int .i64 6) (.int .i64 0) (.string ⟨#[]⟩) (.slice (some ⟨w.heap.size, 0, none⟩) 2 2) (.slice none 0 0) := by
  unfold exV VAt
  refine ⟨rfl, rfl, rfl, by decide, ⟨some ⟨w.heap.size, 0, none⟩, 2, rfl, by decide, ?_⟩, none, 0, rfl, by decide, by unfold MAt; trivial⟩
  unfold LAt
  refine ⟨⟨w.heap.size, 0, _, _, _, _, _, rfl, Nat.lt_succ_self _, ⟨?_, ?_, ?_, ?_, ?_⟩, by unfold exInt; exact leafAt _ _ 2 1 ⟨#[]⟩ (by decide)⟩, ?_⟩
  · rw [World.cell?_alloc_at _ _ _ _ rfl]; rfl
  · rw [World.cell?_alloc_at _ _ _ _ rfl]; rfl
  · rw [World.cell?_alloc_at _ _ _ _ rfl]; rfl
  · rw [World.cell?_alloc_at _ _ _ _ rfl]; rfl
  · rw [World.cell?_alloc_at _ _ _ _ rfl]; rfl
  unfold LAt
  refine ⟨⟨w.heap.size, 0, _, _, _, _, _, rfl, Nat.lt_succ_self _, ⟨?_, ?_, ?_, ?_, ?_⟩, by unfold exVar; exact leafAt _ _ 8 0 ⟨#[97]⟩ (by decide)⟩, ?_⟩
  · rw [World.cell?_alloc_at _ _ _ _ rfl]; rfl
  · rw [World.cell?_alloc_at _ _ _ _ rfl]; rfl
  · rw [World.cell?_alloc_at _ _ _ _ rfl]; rfl
  · rw [World.cell?_alloc_at _ _ _ _ rfl]; rfl
  · rw [World.cell?_alloc_at _ _ _ _ rfl]; rfl
  unfold LAt
  trivial
/-- A cell of an owned row of tokens. -/
theorem TR.at {base : Nat} {w : World} {V : Value} {ts : List (Int × ByteArray)} (h : TR base w V ts) (hn : ts ≠ []) : ∃ g c, V = .slice (some ⟨g, 0, none⟩) ts.length c ∧ base ≤ g ∧ g < w.heap.size ∧ ∀ i u, (cellsT ts)[i]? = some u → w.cell? ⟨g, i, none⟩ = some u := by
  have h' := h
  unfold TR at h
  rcases h.2 with ⟨_, h0⟩ | ⟨g, cap, cur, hV, hb, hg, hcap, hm, hsz, htk⟩
  · exact absurd (List.eq_nil_of_length_eq_zero h0) hn
  · subst hV
    refine ⟨g, cap, rfl, hb, (h.lt g rfl).2, fun i u hi => ?_⟩
    have hil := (List.getElem?_eq_some_iff.1 hi).1
    rw [cellsT_len] at hil
    rw [World.ownsRow.cellAt h i hil, hi]
set_option maxRecDepth 100000 in
set_option maxHeartbeats 4000000 in
theorem vawake_any (w : World) (hw : Laid5 w) : Calls Tryd.prog 5 #[] w fun e w' => e = .returned (.bool true) ∧ Below w.heap.size w w' := by
  have hn1 := alloc_same w (.cells exCells 25)
  have hX1 := exAt w 25
  have hs1 : (w.alloc (.cells exCells 25)).heap.size = w.heap.size + 1 := by simp
  have hn2 := alloc_same (w.alloc (.cells exCells 25)) (.cells #[.int .i64 6, .int .i64 0, .string ⟨#[]⟩, .slice (some ⟨w.heap.size, 0, none⟩) 2 2, .slice none 0 0] 25)
  have HN := Lib.hid (two_below hn1 hn2)
  have hX2 := Lib.hid (VAt.below (hn2.mono (by omega)) _ _ _ _ _ _ hX1)
  have hF := Lib.hid (five_at_new (w.alloc (.cells exCells 25)) (.int .i64 6) (.int .i64 0) (.string ⟨#[]⟩) (.slice (some ⟨w.heap.size, 0, none⟩) 2 2) (.slice none 0 0) 25 (n := w.heap.size + 1) hs1.symm)
  have hs2 : Hid (((w.alloc (.cells exCells 25)).alloc (.cells #[.int .i64 6, .int .i64 0, .string ⟨#[]⟩, .slice (some ⟨w.heap.size, 0, none⟩) 2 2, .slice none 0 0] 25)).heap.size = w.heap.size + 2) := Lib.hid (by simp)
  have HW := Lib.hid hw
  have T := fun (wx : World) (hx : w.heap.size + 1 ≤ wx.heap.size) (hv : VAt wx (w.heap.size + 1) exV (.int .i64 6) (.int .i64 0) (.string ⟨#[]⟩) (.slice (some ⟨w.heap.size, 0, none⟩) 2 2) (.slice none 0 0)) (hl : Laid5 wx) => Lib.hid (tokens_any exV ex_size ex_rng _ _ _ _ _ wx _ hx hv hl)
  have G := fun (wx : World) (hx : w.heap.size + 1 ≤ wx.heap.size) (hv : VAt wx (w.heap.size + 1) exV (.int .i64 6) (.int .i64 0) (.string ⟨#[]⟩) (.slice (some ⟨w.heap.size, 0, none⟩) 2 2) (.slice none 0 0)) (hl : Laid5 wx) => Lib.hid (by have h := vgood_any exV ex_size _ _ _ _ _ wx _ hx hv hl; rw [ex_good] at h; exact h)
  have D := fun (wx : World) (hx : w.heap.size + 1 ≤ wx.heap.size) (hv : VAt wx (w.heap.size + 1) exV (.int .i64 6) (.int .i64 0) (.string ⟨#[]⟩) (.slice (some ⟨w.heap.size, 0, none⟩) 2 2) (.slice none 0 0)) => Lib.hid (by have h := depth_any exV ex_size _ _ _ _ _ wx _ hx hv; rw [ex_dep] at h; exact h)
  have E := fun (wx : World) (hl : Laid5 wx) => Lib.hid (by have h := vgood_any exEnum ex_size2 _ _ _ _ _ wx 0 (Nat.zero_le _) (leafAt wx 0 5 0 ⟨#[116, 114, 117, 101]⟩ (by decide)) hl; rw [ex_bad] at h; exact h)
  clear hn1 hX1 hs1 hn2 hw
  go_enter Tryd.func5, Tryd.ntmps5
  go_wp2_with fail
  refine (T _ (by rw [hs2.out]; omega) hX2.out (HW.out.below HN.out)).out.mono ?_
  rintro e w2 ⟨V2, rfl, h2, hb2⟩
  rw [ex_plain]
  rw [ex_toks] at h2
  obtain ⟨g, c, rfl, hg0, hg1, hcell⟩ := h2.at (by simp)
  rw [hs2.out] at hg0
  have k5 : w2.cell? ⟨g, 5, none⟩ = some (.string ⟨#[36]⟩) := hcell 5 _ rfl
  have B2 := Lib.hid (two_below HN.out hb2)
  obtain ⟨y0, y1, y2, y3, y4⟩ := hF.out.below hb2 (by rw [hs2.out]; omega)
  have HF2 := Lib.hid (hF.out.below hb2 (by rw [hs2.out]; omega))
  have HX3 := Lib.hid (VAt.below (hb2.mono (by rw [hs2.out]; omega)) _ _ _ _ _ _ hX2.out)
  have hlt2 : w.heap.size + 1 < w2.heap.size := by have := hb2.size; rw [hs2.out] at this; omega
  have h5 : (Int.ofNat [(1, openT), (3, itoaT 1), (1, dollarT), ((2 : Int), (⟨#[97]⟩ : ByteArray)), (1, shutT)].length) = 5 := rfl
  clear h2 hb2 T hcell
  go_wp2_with fail
  refine (G _ (Nat.le_of_lt hlt2) HX3.out (HW.out.below B2.out)).out.mono ?_
  rintro e w3 ⟨rfl, hb3⟩
  have B3 := Lib.hid (two_below B2.out hb3)
  obtain ⟨z0, z1, z2, z3, z4⟩ := HF2.out.below hb3 hlt2
  have hlt3 := Nat.lt_of_lt_of_le hlt2 hb3.size
  have HX4 := Lib.hid (VAt.below (hb3.mono (Nat.le_of_lt hlt2)) _ _ _ _ _ _ HX3.out)
  clear hb3 G y0 y1 y2 y3 y4 k5
  go_wp2_with fail
  refine (D _ (Nat.le_of_lt hlt3) HX4.out).out.mono ?_
  rintro e w4 ⟨rfl, hb4⟩
  have B4 := Lib.hid (two_below B3.out hb4)
  clear hb4 D z0 z1 z2 z3 z4
  go_wp2_with fail
  refine (E _ (HW.out.below B4.out)).out.mono ?_
  rintro e w5 ⟨rfl, hb5⟩
  have B5 := Lib.hid (two_below B4.out hb5)
  clear hb5 E
  go_wp2_with fail
  go_ret
  exact ⟨rfl, B5.out⟩
end Go.Proofs.YtnmidlbhkjcimaaDoor
