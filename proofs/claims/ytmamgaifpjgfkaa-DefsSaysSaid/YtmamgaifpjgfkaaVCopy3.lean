/- The walk of seinekeep.Members, and both together. -/
import Derived.Test.YtmamgaifpjgfkaaVCopy2
namespace Go.Proofs.Ytmamgaifpjgfkaa
open Go.RowKit

/-- A member's six cells. -/
def Mem6 (W : World) (b O : Nat) (nm d0 d1 d2 d3 d4 : Value) : Prop := W.cell? ⟨b, O, none⟩ = some nm ∧ W.cell? ⟨b, O + 1, none⟩ = some d0 ∧ W.cell? ⟨b, O + 1 + 1, none⟩ = some d1 ∧ W.cell? ⟨b, O + 1 + 2, none⟩ = some d2 ∧ W.cell? ⟨b, O + 1 + 3, none⟩ = some d3 ∧ W.cell? ⟨b, O + 1 + 4, none⟩ = some d4
theorem Mem6.next {W W' : World} {b O : Nat} {nm d0 d1 d2 d3 d4 : Value} (h : Mem6 W b O nm d0 d1 d2 d3 d4) (hb : W'.heap[b]? = W.heap[b]?) : Mem6 W' b O nm d0 d1 d2 d3 d4 :=
  ⟨(World.cell?_of_block (a := ⟨b, _, none⟩) hb).trans h.1, (World.cell?_of_block (a := ⟨b, _, none⟩) hb).trans h.2.1, (World.cell?_of_block (a := ⟨b, _, none⟩) hb).trans h.2.2.1, (World.cell?_of_block (a := ⟨b, _, none⟩) hb).trans h.2.2.2.1, (World.cell?_of_block (a := ⟨b, _, none⟩) hb).trans h.2.2.2.2.1, (World.cell?_of_block (a := ⟨b, _, none⟩) hb).trans h.2.2.2.2.2⟩

set_option maxRecDepth 100000 in
set_option maxHeartbeats 8000000 in
theorem copym_step (N : Nat) (H : ∀ u, sizeV u ≤ N → SlimV u → CopyC u) : ∀ m, sizeM m ≤ N → m.len * 96 ≤ 140737488355328 → SlimM m → CopyM m := by
  intro m hmN hll hslim A c w B hB hm hM
  obtain ⟨i0, hi, hz0, hz1, hz2⟩ := info_parts info_mem
  have HS := Lib.hid H
  have HB0 := Lib.hid hB
  have HM := Lib.hid hM
  have HSM := Lib.hid hslim
  clear hslim
  clear H hB hM
  go_enter Try.func44, Try.ntmps44
  go_wp2_with fail
  go_loopg [3, 4] m.len (fun g out i wx => ∃ q : Nat, q + g = m.len ∧ i = .int .i64 q ∧ Below w.heap.size w wx ∧ Aside (RM w.heap.size wx out q (m.take q)))
  case atStart => exact ⟨0, by omega, rfl, Below.refl _ _, vaside (by rw [VM.take_zero]; exact RM.start _ _)⟩
  case round =>
    obtain ⟨q, hq, rfl, hb, HA⟩ := hrel
    have HBB := Lib.hid hb
    have hws := hb.size
    obtain ⟨xs, P, hown, hvals, hP⟩ := HA.out
    obtain ⟨Ao, co, rfl⟩ := shape_own hown
    have HO := Lib.hid hown
    have HV := Lib.hid hvals
    have HP := Lib.hid hP
    clear hb hvals hP HA hown
    cases gk with
    | zero =>
      obtain rfl : q = m.len := by omega
      go_wp2_with fail
      go_ret
      obtain ⟨A6, c6, e6, hL6⟩ := row_members HO.out (by have h := HV.out; rwa [VM.take_all] at h)
      refine ⟨A6, c6, by rw [← e6]; rfl, MP.keep (fun b hb => ⟨?_, rfl⟩) _ _ _ hL6, HBB.out⟩
      rcases hb with hb | hb
      · exact ⟨(HP.out b hb).1, (HP.out b hb).2.1⟩
      · exact HO.out.lt b hb
    | succ g =>
      have hqn : q < m.len := by omega
      have hqn' : (q : Int) < (m.len : Int) := by omega
      obtain ⟨⟨nm, x⟩, hv⟩ := VM.get_lt hqn
      have hvN := sizeM_get hv
      obtain ⟨b, o, d0, d1, d2, d3, d4, rfl, hblt, hnm, hns, hF, hV⟩ := MAt.at (MAt.below (HBB.out.mono HB0.out) _ _ _ HM.out) hv
      rw [Nat.zero_add] at hF hnm
      have hbw : b < w.heap.size := Nat.lt_of_lt_of_le hblt HB0.out
      have h6 : Mem6 wr b (o + q * 6) (.string nm) d0 d1 d2 d3 d4 := ⟨hnm, hF.1, hF.2.1, hF.2.2.1, hF.2.2.2.1, hF.2.2.2.2⟩
      obtain ⟨f0, f1, f2, f3, f4⟩ := hF
      have C := fun (wx : World) (hx : Below wr.heap.size wr wx) => Lib.hid (HS.out x (by omega) (HSM.out.get hv) d0 d1 d2 d3 d4 wx B (Nat.le_trans HB0.out (Nat.le_trans HBB.out.size hx.size)) (VAt.below (hx.mono (Nat.le_trans HB0.out HBB.out.size)) _ _ _ _ _ _ hV))
      have hnx := Lib.hid (VM.take_next hv)
      have hno := fun (wx : World) (hx : Below wr.heap.size wr wx) => own_low HO.out hx
      clear hV hvN hv
      go_wp2_with fail
      go_region_held3 (fun w' => w'.cell? ⟨b, o + q * 6, none⟩ = some (.string nm) ∧ w'.cell? ⟨b, o + q * 6 + 1, none⟩ = some d0 ∧ w'.cell? ⟨b, o + q * 6 + 1 + 1, none⟩ = some d1 ∧ w'.cell? ⟨b, o + q * 6 + 1 + 2, none⟩ = some d2 ∧ w'.cell? ⟨b, o + q * 6 + 1 + 3, none⟩ = some d3 ∧ w'.cell? ⟨b, o + q * 6 + 1 + 4, none⟩ = some d4)
        (first
          | exact Mem6.next h6 rfl
          | exact Mem6.next (W := wr.drew) h6 (hb2.block b (by show b < wr.heap.size; omega))
          | exact Mem6.next (W := wr.drew) h6 ((hgrow.block b (by have := hb2.size; simp at this ⊢; omega) (fun e => by have := (HO.out.lt b e.symm).1; omega)).trans ((Below.heap_alloc _ _ _ (by have := hb2.size; simp at this; omega)).trans (hb2.block b (by show b < wr.heap.size; omega))))
          | go_keep)
        ((first
          | (go_at_call 56; refine (C _ (Below.drew (Below.refl _ _))).out.mono ?_; rintro e w2 ⟨e0, e1, e2, e3, e4, rfl, hd, hb2⟩; have HD := Lib.hid hd; obtain ⟨xk, xn, xs', xl, xm⟩ := x; unfold VP at hd; obtain ⟨rfl, rfl, rfl, _, ⟨A3, c3', rfl, _, _⟩, A4, c4', rfl, _, _⟩ := hd)
          | (refine step_append_lies _ (by rfl) _ _ _ (by rfl) w.heap.size 82 i0 _ 6 96 Try.underlying63 hi hz0 hz1 hz2 rfl (by omega) (.slice Ao q co) q xs (by rfl) ((own_low (HO.out.drew) hb2).alloc _)
              ⟨w2.heap.size, 0, none⟩ 1 1 [.string nm, .int .i64 xk, .int .i64 xn, .string xs', .slice A3 xl.len c3', .slice A4 xm.len c4'] (by rfl) (by rfl) (six_new _ _ _ _ _ _ _ _ (by simp)) (by intro y hy; simp at hy; rcases hy with rfl | rfl | rfl | rfl | rfl | rfl <;> rfl)
              (by omega) (by unfold maxLen; omega) (by omega) (by have := hb2.size; simp at this ⊢; omega) _ (by rfl) ?_; intro gg cap2 w4 hown4 hgrow hat hlt4)))
      have HO4 := Lib.hid hown4
      have HG4 := Lib.hid hgrow
      have HT4 := Lib.hid hat
      have HB2 : Hid (Below wr.heap.size wr w2) := Lib.hid ((Below.drew (Below.refl _ _)).trans hb2)
      have HB4 : Hid (Below w.heap.size w w4) := Lib.hid (((HBB.out.trans (HB2.out.mono HBB.out.size)).alloc (Nat.le_trans HBB.out.size HB2.out.size) _).grown hgrow (by have := HB2.out.size; simp; omega) (fun k hk => (HO.out.lt k hk).1))
      clear C hno hown4 hgrow hat hb2 f0 f1 f2 f3 f4 h6 hnm
      go_wp2_with fail
      go_roundg g
      case measure => omega
      case rel => exact ⟨q + 1, by omega, by go_num, HB4.out, vaside (by rw [hnx.out]; exact RM.next hws HO.out HV.out HP.out hns HB2.out HD.out HO4.out HG4.out HT4.out)⟩

theorem copy_all : ∀ N u, sizeV u ≤ N → SlimV u → CopyC u
  | 0, u, h => by have := sizeV_pos u; omega
  | N + 1, u, h => copy_step N (copy_all N) (copym_step N (copy_all N)) u h
theorem copy_any (u : VT) (h : SlimV u) : CopyC u := copy_all _ u (Nat.le_refl _) h
theorem copym_any (m : VM) (hm : m.len * 96 ≤ 140737488355328) (h : SlimM m) : CopyM m := copym_step _ (copy_all _) m (Nat.le_refl _) hm h
end Go.Proofs.Ytmamgaifpjgfkaa
