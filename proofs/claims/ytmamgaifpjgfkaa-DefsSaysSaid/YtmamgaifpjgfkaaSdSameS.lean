/- seineref6.SameSchema over equal trees. (gen_sdsame.py wrote it.) -/
import Derived.Test.YtmamgaifpjgfkaaSdSameD
namespace Go.Proofs.Ytmamgaifpjgfkaa
open Go.RowKit

def BK3 (w : World) (x y : Nat) (c0 c1 c2 d0 d1 d2 : Value) (W : World) : Prop :=
  (W.cell? ⟨x, 0, none⟩ = some c0 ∧ W.cell? ⟨x, 1, none⟩ = some c1 ∧ W.cell? ⟨x, 2, none⟩ = some c2 ∧ W.cell? ⟨y, 0, none⟩ = some d0 ∧ W.cell? ⟨y, 1, none⟩ = some d1 ∧ W.cell? ⟨y, 2, none⟩ = some d2) ∧ x < W.heap.size ∧ y < W.heap.size ∧ Below w.heap.size w W
theorem BK3.cells {w W : World} {x y : Nat} {c0 c1 c2 d0 d1 d2 : Value} (h : BK3 w x y c0 c1 c2 d0 d1 d2 W) : W.cell? ⟨x, 0, none⟩ = some c0 ∧ W.cell? ⟨x, 1, none⟩ = some c1 ∧ W.cell? ⟨x, 2, none⟩ = some c2 ∧ W.cell? ⟨y, 0, none⟩ = some d0 ∧ W.cell? ⟨y, 1, none⟩ = some d1 ∧ W.cell? ⟨y, 2, none⟩ = some d2 := h.1
theorem BK3.below {w W : World} {x y : Nat} {c0 c1 c2 d0 d1 d2 : Value} (h : BK3 w x y c0 c1 c2 d0 d1 d2 W) : Below w.heap.size w W := h.2.2.2
theorem BK3.next {w W W' : World} {x y : Nat} {c0 c1 c2 d0 d1 d2 : Value} (h : BK3 w x y c0 c1 c2 d0 d1 d2 W) (hb : Below W.heap.size W W') : BK3 w x y c0 c1 c2 d0 d1 d2 W' := by
  obtain ⟨⟨g0, g1, g2, f0, f1, f2⟩, hx, hy, hB⟩ := h
  exact ⟨⟨(hb.cell (p := ⟨x, _, none⟩) hx).trans g0, (hb.cell (p := ⟨x, _, none⟩) hx).trans g1, (hb.cell (p := ⟨x, _, none⟩) hx).trans g2, (hb.cell (p := ⟨y, _, none⟩) hy).trans f0, (hb.cell (p := ⟨y, _, none⟩) hy).trans f1, (hb.cell (p := ⟨y, _, none⟩) hy).trans f2⟩, Nat.lt_of_lt_of_le hx hb.size, Nat.lt_of_lt_of_le hy hb.size, hB.trans (hb.mono hB.size)⟩
theorem BK3.start (w : World) (c0 c1 c2 d0 d1 d2 : Value) (t : TypeId) : BK3 w (w.heap.size) (w.heap.size + 1) c0 c1 c2 d0 d1 d2 ((w.alloc (.cells #[c0, c1, c2] t)).alloc (.cells #[d0, d1, d2] t)) := by
  have k0 : ((w.alloc (.cells #[c0, c1, c2] t)).alloc (.cells #[d0, d1, d2] t)).heap[w.heap.size]? = some (.cells #[c0, c1, c2] t) := by
    show ((w.alloc (.cells #[c0, c1, c2] t)).alloc (.cells #[d0, d1, d2] t)).heap[w.heap.size]? = _
    rw [Below.heap_alloc _ _ _ (by simp)]
    show (w.heap.push _)[w.heap.size]? = _; simp
  have k1 : ((w.alloc (.cells #[c0, c1, c2] t)).alloc (.cells #[d0, d1, d2] t)).heap[w.heap.size + 1]? = some (.cells #[d0, d1, d2] t) := by
    show ((w.heap.push _).push _)[w.heap.size + 1]? = _
    rw [Array.getElem?_push, if_pos (by simp)]
  refine ⟨⟨?_, ?_, ?_, ?_, ?_, ?_⟩, ?_, ?_, ((Below.refl _ _).alloc (Nat.le_refl _) _).alloc (by simp) _⟩
  all_goals first | (simp only [World.cell?]; first | (rw [k0]; rfl) | (rw [k1]; rfl)) | (show _ < ((w.heap.push _).push _).size; simp; done) | (show _ < ((w.heap.push _).push _).size; simp; omega)
def KS63 (w : World) (s0 s1 s2 r0 r1 r2 : Value) (b O : Nat) (c0 c1 c2 c3 c4 c5 : Value) (b' O' : Nat) (d0 d1 d2 d3 d4 d5 : Value) (W : World) : Prop :=
  (W.cell? ⟨b, O, none⟩ = some c0 ∧ W.cell? ⟨b, O + 1, none⟩ = some c1 ∧ W.cell? ⟨b, O + 2, none⟩ = some c2 ∧ W.cell? ⟨b, O + 3, none⟩ = some c3 ∧ W.cell? ⟨b, O + 4, none⟩ = some c4 ∧ W.cell? ⟨b, O + 5, none⟩ = some c5 ∧ W.cell? ⟨b', O', none⟩ = some d0 ∧ W.cell? ⟨b', O' + 1, none⟩ = some d1 ∧ W.cell? ⟨b', O' + 2, none⟩ = some d2 ∧ W.cell? ⟨b', O' + 3, none⟩ = some d3 ∧ W.cell? ⟨b', O' + 4, none⟩ = some d4 ∧ W.cell? ⟨b', O' + 5, none⟩ = some d5) ∧ BK3 w w.heap.size (w.heap.size + 1) s0 s1 s2 r0 r1 r2 W
theorem KS63.next {w W : World} {s0 s1 s2 r0 r1 r2 : Value} {b O : Nat} {c0 c1 c2 c3 c4 c5 : Value} {b' O' : Nat} {d0 d1 d2 d3 d4 d5 : Value} {W' : World} (h : KS63 w s0 s1 s2 r0 r1 r2 b O c0 c1 c2 c3 c4 c5 b' O' d0 d1 d2 d3 d4 d5 W) (hl : b < w.heap.size) (hl' : b' < w.heap.size) (hb : Below W.heap.size W W') : KS63 w s0 s1 s2 r0 r1 r2 b O c0 c1 c2 c3 c4 c5 b' O' d0 d1 d2 d3 d4 d5 W' := by
  obtain ⟨⟨g0, g1, g2, g3, g4, g5, f0, f1, f2, f3, f4, f5⟩, hK⟩ := h
  have g := Nat.lt_of_lt_of_le hl hK.below.size
  have g' := Nat.lt_of_lt_of_le hl' hK.below.size
  exact ⟨⟨(hb.cell (p := ⟨b, _, none⟩) g).trans g0, (hb.cell (p := ⟨b, _, none⟩) g).trans g1, (hb.cell (p := ⟨b, _, none⟩) g).trans g2, (hb.cell (p := ⟨b, _, none⟩) g).trans g3, (hb.cell (p := ⟨b, _, none⟩) g).trans g4, (hb.cell (p := ⟨b, _, none⟩) g).trans g5, (hb.cell (p := ⟨b', _, none⟩) g').trans f0, (hb.cell (p := ⟨b', _, none⟩) g').trans f1, (hb.cell (p := ⟨b', _, none⟩) g').trans f2, (hb.cell (p := ⟨b', _, none⟩) g').trans f3, (hb.cell (p := ⟨b', _, none⟩) g').trans f4, (hb.cell (p := ⟨b', _, none⟩) g').trans f5⟩, hK.next hb⟩
theorem KS63.written {w W : World} {s0 s1 s2 r0 r1 r2 : Value} {b O : Nat} {c0 c1 c2 c3 c4 c5 : Value} {b' O' : Nat} {d0 d1 d2 d3 d4 d5 : Value} (h : KS63 w s0 s1 s2 r0 r1 r2 b O c0 c1 c2 c3 c4 c5 b' O' d0 d1 d2 d3 d4 d5 W) : W.cell? ⟨w.heap.size, 0, none⟩ = some s0 ∧ W.cell? ⟨w.heap.size + 1, 0, none⟩ = some r0 ∧ W.cell? ⟨b, O, none⟩ = some c0 ∧ W.cell? ⟨b, O + 1, none⟩ = some c1 ∧ W.cell? ⟨b, O + 2, none⟩ = some c2 ∧ W.cell? ⟨b, O + 3, none⟩ = some c3 ∧ W.cell? ⟨b, O + 4, none⟩ = some c4 ∧ W.cell? ⟨b, O + 5, none⟩ = some c5 ∧ W.cell? ⟨b', O', none⟩ = some d0 ∧ W.cell? ⟨b', O' + 1, none⟩ = some d1 ∧ W.cell? ⟨b', O' + 2, none⟩ = some d2 ∧ W.cell? ⟨b', O' + 3, none⟩ = some d3 ∧ W.cell? ⟨b', O' + 4, none⟩ = some d4 ∧ W.cell? ⟨b', O' + 5, none⟩ = some d5 ∧ KS63 w s0 s1 s2 r0 r1 r2 b O c0 c1 c2 c3 c4 c5 b' O' d0 d1 d2 d3 d4 d5 W := by
  have h' := h
  obtain ⟨⟨g0, g1, g2, g3, g4, g5, f0, f1, f2, f3, f4, f5⟩, hK⟩ := h
  obtain ⟨x0, x1, x2, y0, y1, y2⟩ := hK.cells
  exact ⟨x0, y0, g0, g1, g2, g3, g4, g5, f0, f1, f2, f3, f4, f5, h'⟩
set_option maxRecDepth 100000 in
set_option maxHeartbeats 8000000 in
theorem ssch_yes (ss : List DefnT) (sq sm : ByteArray) (As As' : Option Addr) (ks ks' : Nat) (w : World) (B : Nat) (hB : B ≤ w.heap.size) (hl : ss.length ≤ 9223372036854775807) (h1 : RowT w (fun b => b < B) (rowOf encDefn ss) As) (h2 : RowT w (fun b => b < B) (rowOf encDefn ss) As') :
    Calls Try.prog 19 #[.agg #[.slice As ss.length ks, .string sq, .string sm], .agg #[.slice As' ss.length ks', .string sq, .string sm]] w fun e w' => e = .returned (.bool true) ∧ Below w.heap.size w w' := by
  have R1 := Lib.hid h1
  have R2 := Lib.hid h2
  have HB0 := Lib.hid hB
  clear h1 h2 hB
  have eQ : (sq.toList != sq.toList) = false := by simp
  have eM : (sm.toList != sm.toList) = false := by simp
  have eL : ((ss.length : Int) != (ss.length : Int)) = false := by simp
  go_enter Try.func19, Try.ntmps19
  have hW4 := Lib.hid (BK3.start w (.slice As ss.length ks) (.string sq) (.string sm) (.slice As' ss.length ks') (.string sq) (.string sm) 24)
  go_wp2_with fail
  go_loopg [5] ss.length (fun g i wx => ∃ q : Nat, q + g = ss.length ∧ i = .int .i64 q ∧ BK3 w w.heap.size (w.heap.size + 1) (.slice As ss.length ks) (.string sq) (.string sm) (.slice As' ss.length ks') (.string sq) (.string sm) wx)
  case atStart => exact ⟨0, by omega, rfl, hW4.out⟩
  case round =>
    clear hW4
    obtain ⟨q, hq, rfl, hb⟩ := hrel
    have HK := Lib.hid hb
    have HBB := Lib.hid hb.below
    have hx1 : w.heap.size < wr.heap.size := hb.2.1
    have hx2 : w.heap.size + 1 < wr.heap.size := hb.2.2.1
    obtain ⟨q0, _, _, q1, _, _⟩ := hb.cells
    clear hb
    cases gk with
    | zero =>
      obtain rfl : q = ss.length := by omega
      go_wp2_with fail
      go_ret
      exact ⟨rfl, HBB.out⟩
    | succ g =>
      clear q0 q1
      have hqn : q < ss.length := by omega
      have hqn' : (q : Int) < (ss.length : Int) := by omega
      obtain ⟨⟨k, nm, fs, fl, qs, ps⟩, hv⟩ : ∃ x, ss[q]? = some x := ⟨_, List.getElem?_eq_getElem hqn⟩
      obtain ⟨b, o, Af, kf, Al, kl, Aq, kq, Ap, kp, rfl, hblt, ⟨g0, g1, g2, g3, g4, g5⟩, V1⟩ := def_at (RowT.below (HBB.out.mono HB0.out) R1.out) hv
      obtain ⟨b', o', Af', kf', Al', kl', Aq', kq', Ap', kp', rfl, hblt', ⟨f0, f1, f2, f3, f4, f5⟩, V2⟩ := def_at (RowT.below (HBB.out.mono HB0.out) R2.out) hv
      have HBX := Nat.le_trans HB0.out HBB.out.size
      have HBW : Hid (b < w.heap.size) := Lib.hid (Nat.lt_of_lt_of_le hblt HB0.out)
      have HBW' : Hid (b' < w.heap.size) := Lib.hid (Nat.lt_of_lt_of_le hblt' HB0.out)
      have hE0 : KS63 w (.slice (some ⟨b, o, none⟩) ss.length ks) (.string sq) (.string sm) (.slice (some ⟨b', o', none⟩) ss.length ks') (.string sq) (.string sm) b (o + q * 6) (.int .i64 k) (.string nm) (.slice Af fs.length kf) (.slice Al fl.length kl) (.slice Aq qs.length kq) (.slice Ap ps.length kp) b' (o' + q * 6) (.int .i64 k) (.string nm) (.slice Af' fs.length kf') (.slice Al' fl.length kl') (.slice Aq' qs.length kq') (.slice Ap' ps.length kp') wr := ⟨⟨g0, g1, g2, g3, g4, g5, f0, f1, f2, f3, f4, f5⟩, HK.out⟩
      have C := fun (wx : World) (hx : Below wr.heap.size wr wx) => Lib.hid (sdef_yes k nm fs fl qs ps Af Af' Al Al' Aq Aq' Ap Ap' kf kf' kl kl' kq kq' kp kp' wx B (Nat.le_trans HBX hx.size) (DefnAt.below (hx.mono HBX) V1) (DefnAt.below (hx.mono HBX) V2))
      have hp := hE0.written
      clear V1 V2 hv hblt hblt' HBX g0 g1 g2 g3 g4 g5 f0 f1 f2 f3 f4 f5
      obtain ⟨p0, p1, g0, g1, g2, g3, g4, g5, f0, f1, f2, f3, f4, f5, _⟩ := hp
      go_wp2_with fail
      go_region_held3 (fun w' => w'.cell? ⟨w.heap.size, 0, none⟩ = some (.slice (some ⟨b, o, none⟩) ss.length ks) ∧ w'.cell? ⟨w.heap.size + 1, 0, none⟩ = some (.slice (some ⟨b', o', none⟩) ss.length ks') ∧ w'.cell? ⟨b, o + q * 6, none⟩ = some (.int .i64 k) ∧ w'.cell? ⟨b, o + q * 6 + 1, none⟩ = some (.string nm) ∧ w'.cell? ⟨b, o + q * 6 + 2, none⟩ = some (.slice Af fs.length kf) ∧ w'.cell? ⟨b, o + q * 6 + 3, none⟩ = some (.slice Al fl.length kl) ∧ w'.cell? ⟨b, o + q * 6 + 4, none⟩ = some (.slice Aq qs.length kq) ∧ w'.cell? ⟨b, o + q * 6 + 5, none⟩ = some (.slice Ap ps.length kp) ∧ w'.cell? ⟨b', o' + q * 6, none⟩ = some (.int .i64 k) ∧ w'.cell? ⟨b', o' + q * 6 + 1, none⟩ = some (.string nm) ∧ w'.cell? ⟨b', o' + q * 6 + 2, none⟩ = some (.slice Af' fs.length kf') ∧ w'.cell? ⟨b', o' + q * 6 + 3, none⟩ = some (.slice Al' fl.length kl') ∧ w'.cell? ⟨b', o' + q * 6 + 4, none⟩ = some (.slice Aq' qs.length kq') ∧ w'.cell? ⟨b', o' + q * 6 + 5, none⟩ = some (.slice Ap' ps.length kp') ∧ KS63 w (.slice (some ⟨b, o, none⟩) ss.length ks) (.string sq) (.string sm) (.slice (some ⟨b', o', none⟩) ss.length ks') (.string sq) (.string sm) b (o + q * 6) (.int .i64 k) (.string nm) (.slice Af fs.length kf) (.slice Al fl.length kl) (.slice Aq qs.length kq) (.slice Ap ps.length kp) b' (o' + q * 6) (.int .i64 k) (.string nm) (.slice Af' fs.length kf') (.slice Al' fl.length kl') (.slice Aq' qs.length kq') (.slice Ap' ps.length kp') w')
        (first
          | exact KS63.written (KS63.next hE0 HBW.out HBW'.out (Below.drew (Below.refl _ _)))
          | exact KS63.written ((KS63.next hE0 HBW.out HBW'.out (Below.drew (Below.refl _ _))).next HBW.out HBW'.out (by assumption))
          | exact KS63.written (KS63.next hE0 HBW.out HBW'.out (by assumption))
          | exact KS63.written (KS63.next (by assumption) HBW.out HBW'.out (by assumption))
          | go_keep)
        ((first | (go_at_call 9; refine (C _ (by first | exact Below.drew (Below.refl _ _) | exact Below.refl _ _ | assumption)).out.mono ?_; rintro e w' ⟨rfl, hb⟩)))
      all_goals
        have HKM : KS63 w (.slice (some ⟨b, o, none⟩) ss.length ks) (.string sq) (.string sm) (.slice (some ⟨b', o', none⟩) ss.length ks') (.string sq) (.string sm) b (o + q * 6) (.int .i64 k) (.string nm) (.slice Af fs.length kf) (.slice Al fl.length kl) (.slice Aq qs.length kq) (.slice Ap ps.length kp) b' (o' + q * 6) (.int .i64 k) (.string nm) (.slice Af' fs.length kf') (.slice Al' fl.length kl') (.slice Aq' qs.length kq') (.slice Ap' ps.length kp') w' := And.right (And.right (And.right (And.right (And.right (And.right (And.right (And.right (And.right (And.right (And.right (And.right (And.right (And.right (by assumption))))))))))))))
        have HKB := Lib.hid HKM.2
        clear HKM hE0 C p0 p1 g0 g1 g2 g3 g4 g5 f0 f1 f2 f3 f4 f5
        go_wp2_with fail
        go_roundg g
        case measure => omega
        case rel => exact ⟨q + 1, by omega, by go_num, HKB.out⟩
end Go.Proofs.Ytmamgaifpjgfkaa
