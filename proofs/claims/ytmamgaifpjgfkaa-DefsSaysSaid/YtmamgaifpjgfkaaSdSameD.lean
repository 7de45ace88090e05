/- seineref6.SameDef over equal trees. (gen_sdsame.py wrote it.) -/
import Derived.Test.YtmamgaifpjgfkaaSdSameF
namespace Go.Proofs.Ytmamgaifpjgfkaa
open Go.RowKit

def KS66 (w : World) (s0 s1 s2 s3 s4 s5 r0 r1 r2 r3 r4 r5 : Value) (b O : Nat) (c0 c1 c2 c3 c4 c5 : Value) (b' O' : Nat) (d0 d1 d2 d3 d4 d5 : Value) (W : World) : Prop :=
  (W.cell? ⟨b, O, none⟩ = some c0 ∧ W.cell? ⟨b, O + 1, none⟩ = some c1 ∧ W.cell? ⟨b, O + 2, none⟩ = some c2 ∧ W.cell? ⟨b, O + 3, none⟩ = some c3 ∧ W.cell? ⟨b, O + 4, none⟩ = some c4 ∧ W.cell? ⟨b, O + 5, none⟩ = some c5 ∧ W.cell? ⟨b', O', none⟩ = some d0 ∧ W.cell? ⟨b', O' + 1, none⟩ = some d1 ∧ W.cell? ⟨b', O' + 2, none⟩ = some d2 ∧ W.cell? ⟨b', O' + 3, none⟩ = some d3 ∧ W.cell? ⟨b', O' + 4, none⟩ = some d4 ∧ W.cell? ⟨b', O' + 5, none⟩ = some d5) ∧ BK6 w w.heap.size (w.heap.size + 1) s0 s1 s2 s3 s4 s5 r0 r1 r2 r3 r4 r5 W
theorem KS66.next {w W : World} {s0 s1 s2 s3 s4 s5 r0 r1 r2 r3 r4 r5 : Value} {b O : Nat} {c0 c1 c2 c3 c4 c5 : Value} {b' O' : Nat} {d0 d1 d2 d3 d4 d5 : Value} {W' : World} (h : KS66 w s0 s1 s2 s3 s4 s5 r0 r1 r2 r3 r4 r5 b O c0 c1 c2 c3 c4 c5 b' O' d0 d1 d2 d3 d4 d5 W) (hl : b < w.heap.size) (hl' : b' < w.heap.size) (hb : Below W.heap.size W W') : KS66 w s0 s1 s2 s3 s4 s5 r0 r1 r2 r3 r4 r5 b O c0 c1 c2 c3 c4 c5 b' O' d0 d1 d2 d3 d4 d5 W' := by
  obtain ⟨⟨g0, g1, g2, g3, g4, g5, f0, f1, f2, f3, f4, f5⟩, hK⟩ := h
  have g := Nat.lt_of_lt_of_le hl hK.below.size
  have g' := Nat.lt_of_lt_of_le hl' hK.below.size
  exact ⟨⟨(hb.cell (p := ⟨b, _, none⟩) g).trans g0, (hb.cell (p := ⟨b, _, none⟩) g).trans g1, (hb.cell (p := ⟨b, _, none⟩) g).trans g2, (hb.cell (p := ⟨b, _, none⟩) g).trans g3, (hb.cell (p := ⟨b, _, none⟩) g).trans g4, (hb.cell (p := ⟨b, _, none⟩) g).trans g5, (hb.cell (p := ⟨b', _, none⟩) g').trans f0, (hb.cell (p := ⟨b', _, none⟩) g').trans f1, (hb.cell (p := ⟨b', _, none⟩) g').trans f2, (hb.cell (p := ⟨b', _, none⟩) g').trans f3, (hb.cell (p := ⟨b', _, none⟩) g').trans f4, (hb.cell (p := ⟨b', _, none⟩) g').trans f5⟩, hK.next hb⟩
theorem KS66.written {w W : World} {s0 s1 s2 s3 s4 s5 r0 r1 r2 r3 r4 r5 : Value} {b O : Nat} {c0 c1 c2 c3 c4 c5 : Value} {b' O' : Nat} {d0 d1 d2 d3 d4 d5 : Value} (h : KS66 w s0 s1 s2 s3 s4 s5 r0 r1 r2 r3 r4 r5 b O c0 c1 c2 c3 c4 c5 b' O' d0 d1 d2 d3 d4 d5 W) : W.cell? ⟨w.heap.size, 3, none⟩ = some s3 ∧ W.cell? ⟨w.heap.size + 1, 3, none⟩ = some r3 ∧ W.cell? ⟨b, O, none⟩ = some c0 ∧ W.cell? ⟨b, O + 1, none⟩ = some c1 ∧ W.cell? ⟨b, O + 2, none⟩ = some c2 ∧ W.cell? ⟨b, O + 3, none⟩ = some c3 ∧ W.cell? ⟨b, O + 4, none⟩ = some c4 ∧ W.cell? ⟨b, O + 5, none⟩ = some c5 ∧ W.cell? ⟨b', O', none⟩ = some d0 ∧ W.cell? ⟨b', O' + 1, none⟩ = some d1 ∧ W.cell? ⟨b', O' + 2, none⟩ = some d2 ∧ W.cell? ⟨b', O' + 3, none⟩ = some d3 ∧ W.cell? ⟨b', O' + 4, none⟩ = some d4 ∧ W.cell? ⟨b', O' + 5, none⟩ = some d5 ∧ KS66 w s0 s1 s2 s3 s4 s5 r0 r1 r2 r3 r4 r5 b O c0 c1 c2 c3 c4 c5 b' O' d0 d1 d2 d3 d4 d5 W := by
  have h' := h
  obtain ⟨⟨g0, g1, g2, g3, g4, g5, f0, f1, f2, f3, f4, f5⟩, hK⟩ := h
  obtain ⟨x0, x1, x2, x3, x4, x5, y0, y1, y2, y3, y4, y5⟩ := hK.cells
  exact ⟨x3, y3, g0, g1, g2, g3, g4, g5, f0, f1, f2, f3, f4, f5, h'⟩
def DefnAt (w : World) (B : Nat) (fs : List ByteArray) (fl : List FieldT) (qs : List ByteArray) (ps : List VarT) (Af Al Aq Ap : Option Addr) : Prop :=
  (fs.length ≤ 9223372036854775807 ∧ fl.length ≤ 9223372036854775807 ∧ qs.length ≤ 9223372036854775807 ∧ ps.length ≤ 9223372036854775807) ∧ RowT w (fun b => b < B) (rowOf encStr fs) Af ∧ RowT w (fun b => b < B) (rowOf encField fl) Al ∧ RowT w (fun b => b < B) (rowOf encStr qs) Aq ∧ RowT w (fun b => b < B) (rowOf encVar ps) Ap
theorem DefnAt.below {w w' : World} {B : Nat} (hb : Below B w w') {fs : List ByteArray} {fl : List FieldT} {qs : List ByteArray} {ps : List VarT} {Af Al Aq Ap : Option Addr} (h : DefnAt w B fs fl qs ps Af Al Aq Ap) : DefnAt w' B fs fl qs ps Af Al Aq Ap :=
  ⟨h.1, RowT.below hb h.2.1, RowT.below hb h.2.2.1, RowT.below hb h.2.2.2.1, RowT.below hb h.2.2.2.2⟩
theorem def_at {w : World} {B : Nat} {l : List DefnT} {A : Option Addr} {q : Nat} {k : Int} {nm : ByteArray} {fs : List ByteArray} {fl : List FieldT} {qs : List ByteArray} {ps : List VarT} (h : RowT w (fun b => b < B) (rowOf encDefn l) A) (hx : l[q]? = some ⟨k, nm, fs, fl, qs, ps⟩) :
    ∃ b p Af kf Al kl Aq kq Ap kp, A = some ⟨b, p, none⟩ ∧ b < B ∧ (w.cell? ⟨b, p + q * 6, none⟩ = some (.int .i64 k) ∧ w.cell? ⟨b, p + q * 6 + 1, none⟩ = some (.string nm) ∧ w.cell? ⟨b, p + q * 6 + 2, none⟩ = some (.slice Af fs.length kf) ∧ w.cell? ⟨b, p + q * 6 + 3, none⟩ = some (.slice Al fl.length kl) ∧ w.cell? ⟨b, p + q * 6 + 4, none⟩ = some (.slice Aq qs.length kq) ∧ w.cell? ⟨b, p + q * 6 + 5, none⟩ = some (.slice Ap ps.length kp)) ∧ DefnAt w B fs fl qs ps Af Al Aq Ap := by
  obtain ⟨b, p, cs, e, hb, hc, h1⟩ := rowOf_at 6 (fun _ => rfl) h hx
  simp only [encDefn, TS, TP] at h1
  obtain ⟨c0, _, rfl, ⟨rfl, _⟩, c1, _, rfl, ⟨rfl, _⟩, c2, _, rfl, ⟨Af, kf, rfl, hfl, hF⟩, c3, _, rfl, ⟨Al, kl, rfl, hll, hL⟩, c4, _, rfl, ⟨Aq, kq, rfl, hql, hQ⟩, c5, _, rfl, ⟨Ap, kp, rfl, hpl, hP⟩, rfl⟩ := h1
  rw [rowOf_len] at hfl hll hql hpl
  rw [rowOf_len, rowOf_len, rowOf_len, rowOf_len] at hc
  exact ⟨b, p, Af, kf, Al, kl, Aq, kq, Ap, kp, e, hb, ⟨hc 0 _ rfl, hc 1 _ rfl, hc 2 _ rfl, hc 3 _ rfl, hc 4 _ rfl, hc 5 _ rfl⟩, ⟨hfl, hll, hql, hpl⟩, hF, hL, hQ, hP⟩

set_option maxRecDepth 100000 in
set_option maxHeartbeats 8000000 in
theorem sdef_yes (k : Int) (nm : ByteArray) (fs : List ByteArray) (fl : List FieldT) (qs : List ByteArray) (ps : List VarT) (Af Af' Al Al' Aq Aq' Ap Ap' : Option Addr) (kf kf' kl kl' kq kq' kp kp' : Nat) (w : World) (B : Nat) (hB : B ≤ w.heap.size) (h1 : DefnAt w B fs fl qs ps Af Al Aq Ap) (h2 : DefnAt w B fs fl qs ps Af' Al' Aq' Ap') :
    Calls Try.prog 9 #[.agg #[.int .i64 k, .string nm, .slice Af fs.length kf, .slice Al fl.length kl, .slice Aq qs.length kq, .slice Ap ps.length kp], .agg #[.int .i64 k, .string nm, .slice Af' fs.length kf', .slice Al' fl.length kl', .slice Aq' qs.length kq', .slice Ap' ps.length kp']] w fun e w' => e = .returned (.bool true) ∧ Below w.heap.size w w' := by
  have S1 := Lib.hid h1
  have S2 := Lib.hid h2
  have R1 := Lib.hid h1.2.2.1
  have R2 := Lib.hid h2.2.2.1
  have hfl := h1.1.2.1
  have HB0 := Lib.hid hB
  clear h1 h2 hB
  have eK : (k != k) = false := by simp
  have eN : (nm.toList != nm.toList) = false := by simp
  have eL : ((fl.length : Int) != (fl.length : Int)) = false := by simp
  go_enter Try.func9, Try.ntmps9
  have hW0 := Lib.hid (BK6.start w (.int .i64 k) (.string nm) (.slice Af fs.length kf) (.slice Al fl.length kl) (.slice Aq qs.length kq) (.slice Ap ps.length kp) (.int .i64 k) (.string nm) (.slice Af' fs.length kf') (.slice Al' fl.length kl') (.slice Aq' qs.length kq') (.slice Ap' ps.length kp') 32)
  go_wp2_with fail
  have hB1 := hW0.out.below
  refine (texts_yes fs Af Af' kf kf' _ B (Nat.le_trans HB0.out hB1.size) S1.out.1.1 (DefnAt.below (hB1.mono HB0.out) S1.out).2.1 (DefnAt.below (hB1.mono HB0.out) S2.out).2.1).mono ?_
  rintro e w1 ⟨rfl, hb3⟩
  have hW1 := Lib.hid (BK6.next hW0.out hb3)
  clear hW0 hB1 hb3
  have hc0 := hW1.out.cells
  obtain ⟨g0, g1, g2, g3, g4, g5, f0, f1, f2, f3, f4, f5⟩ := hc0
  go_wp2_with fail
  have hB1 := hW1.out.below
  refine (texts_yes qs Aq Aq' kq kq' _ B (Nat.le_trans HB0.out hB1.size) S1.out.1.2.2.1 (DefnAt.below (hB1.mono HB0.out) S1.out).2.2.2.1 (DefnAt.below (hB1.mono HB0.out) S2.out).2.2.2.1).mono ?_
  rintro e w2 ⟨rfl, hb3⟩
  have hW2 := Lib.hid (BK6.next hW1.out hb3)
  clear hW1 hB1 hb3 g0 g1 g2 g3 g4 g5 f0 f1 f2 f3 f4 f5
  have hc0 := hW2.out.cells
  obtain ⟨g0, g1, g2, g3, g4, g5, f0, f1, f2, f3, f4, f5⟩ := hc0
  go_wp2_with fail
  have hB1 := hW2.out.below
  refine (spars_yes ps Ap Ap' kp kp' _ B (Nat.le_trans HB0.out hB1.size) S1.out.1.2.2.2 (DefnAt.below (hB1.mono HB0.out) S1.out).2.2.2.2 (DefnAt.below (hB1.mono HB0.out) S2.out).2.2.2.2).mono ?_
  rintro e w3 ⟨rfl, hb3⟩
  have hW4 := Lib.hid (BK6.next hW2.out hb3)
  clear hW2 hB1 hb3 g0 g1 g2 g3 g4 g5 f0 f1 f2 f3 f4 f5
  have hc0 := hW4.out.cells
  obtain ⟨g0, g1, g2, g3, g4, g5, f0, f1, f2, f3, f4, f5⟩ := hc0
  go_wp2_with fail
  clear g0 g1 g2 g3 g4 g5 f0 f1 f2 f3 f4 f5
  go_loopg [5] fl.length (fun g i wx => ∃ q : Nat, q + g = fl.length ∧ i = .int .i64 q ∧ BK6 w w.heap.size (w.heap.size + 1) (.int .i64 k) (.string nm) (.slice Af fs.length kf) (.slice Al fl.length kl) (.slice Aq qs.length kq) (.slice Ap ps.length kp) (.int .i64 k) (.string nm) (.slice Af' fs.length kf') (.slice Al' fl.length kl') (.slice Aq' qs.length kq') (.slice Ap' ps.length kp') wx)
  case atStart => exact ⟨0, by omega, rfl, hW4.out⟩
  case round =>
    clear hW4
    obtain ⟨q, hq, rfl, hb⟩ := hrel
    have HK := Lib.hid hb
    have HBB := Lib.hid hb.below
    have hx1 : w.heap.size < wr.heap.size := hb.2.1
    have hx2 : w.heap.size + 1 < wr.heap.size := hb.2.2.1
    obtain ⟨_, _, _, q0, _, _, _, _, _, q1, _, _⟩ := hb.cells
    clear hb
    cases gk with
    | zero =>
      obtain rfl : q = fl.length := by omega
      go_wp2_with fail
      go_ret
      exact ⟨rfl, HBB.out⟩
    | succ g =>
      clear q0 q1
      have hqn : q < fl.length := by omega
      have hqn' : (q : Int) < (fl.length : Int) := by omega
      obtain ⟨⟨nx, px, tn, tl, tm, ds⟩, hv⟩ : ∃ x, fl[q]? = some x := ⟨_, List.getElem?_eq_getElem hqn⟩
      obtain ⟨b, o, Ax, kx, Ad, kd, rfl, hblt, ⟨g0, g1, g2, g3, g4, g5⟩, V1⟩ := s_field_at (RowT.below (HBB.out.mono HB0.out) R1.out) hv
      obtain ⟨b', o', Ax', kx', Ad', kd', rfl, hblt', ⟨f0, f1, f2, f3, f4, f5⟩, V2⟩ := s_field_at (RowT.below (HBB.out.mono HB0.out) R2.out) hv
      have HBX := Nat.le_trans HB0.out HBB.out.size
      have HBW : Hid (b < w.heap.size) := Lib.hid (Nat.lt_of_lt_of_le hblt HB0.out)
      have HBW' : Hid (b' < w.heap.size) := Lib.hid (Nat.lt_of_lt_of_le hblt' HB0.out)
      have hE0 : KS66 w (.int .i64 k) (.string nm) (.slice Af fs.length kf) (.slice (some ⟨b, o, none⟩) fl.length kl) (.slice Aq qs.length kq) (.slice Ap ps.length kp) (.int .i64 k) (.string nm) (.slice Af' fs.length kf') (.slice (some ⟨b', o', none⟩) fl.length kl') (.slice Aq' qs.length kq') (.slice Ap' ps.length kp') b (o + q * 6) (.string nx) (.slice Ax px.length kx) (.string tn) (.int .i64 (tl : Int)) (.int .i64 (tm : Int)) (.slice Ad ds.length kd) b' (o' + q * 6) (.string nx) (.slice Ax' px.length kx') (.string tn) (.int .i64 (tl : Int)) (.int .i64 (tm : Int)) (.slice Ad' ds.length kd') wr := ⟨⟨g0, g1, g2, g3, g4, g5, f0, f1, f2, f3, f4, f5⟩, HK.out⟩
      have C := fun (wx : World) (hx : Below wr.heap.size wr wx) => Lib.hid (sfield_yes nx tn tl tm px ds Ax Ax' Ad Ad' kx kx' kd kd' wx B (Nat.le_trans HBX hx.size) (FieldAt.below (hx.mono HBX) V1) (FieldAt.below (hx.mono HBX) V2))
      have hp := hE0.written
      clear V1 V2 hv hblt hblt' HBX g0 g1 g2 g3 g4 g5 f0 f1 f2 f3 f4 f5
      obtain ⟨p0, p1, g0, g1, g2, g3, g4, g5, f0, f1, f2, f3, f4, f5, _⟩ := hp
      go_wp2_with fail
      go_region_held3 (fun w' => w'.cell? ⟨w.heap.size, 3, none⟩ = some (.slice (some ⟨b, o, none⟩) fl.length kl) ∧ w'.cell? ⟨w.heap.size + 1, 3, none⟩ = some (.slice (some ⟨b', o', none⟩) fl.length kl') ∧ w'.cell? ⟨b, o + q * 6, none⟩ = some (.string nx) ∧ w'.cell? ⟨b, o + q * 6 + 1, none⟩ = some (.slice Ax px.length kx) ∧ w'.cell? ⟨b, o + q * 6 + 2, none⟩ = some (.string tn) ∧ w'.cell? ⟨b, o + q * 6 + 3, none⟩ = some (.int .i64 (tl : Int)) ∧ w'.cell? ⟨b, o + q * 6 + 4, none⟩ = some (.int .i64 (tm : Int)) ∧ w'.cell? ⟨b, o + q * 6 + 5, none⟩ = some (.slice Ad ds.length kd) ∧ w'.cell? ⟨b', o' + q * 6, none⟩ = some (.string nx) ∧ w'.cell? ⟨b', o' + q * 6 + 1, none⟩ = some (.slice Ax' px.length kx') ∧ w'.cell? ⟨b', o' + q * 6 + 2, none⟩ = some (.string tn) ∧ w'.cell? ⟨b', o' + q * 6 + 3, none⟩ = some (.int .i64 (tl : Int)) ∧ w'.cell? ⟨b', o' + q * 6 + 4, none⟩ = some (.int .i64 (tm : Int)) ∧ w'.cell? ⟨b', o' + q * 6 + 5, none⟩ = some (.slice Ad' ds.length kd') ∧ KS66 w (.int .i64 k) (.string nm) (.slice Af fs.length kf) (.slice (some ⟨b, o, none⟩) fl.length kl) (.slice Aq qs.length kq) (.slice Ap ps.length kp) (.int .i64 k) (.string nm) (.slice Af' fs.length kf') (.slice (some ⟨b', o', none⟩) fl.length kl') (.slice Aq' qs.length kq') (.slice Ap' ps.length kp') b (o + q * 6) (.string nx) (.slice Ax px.length kx) (.string tn) (.int .i64 (tl : Int)) (.int .i64 (tm : Int)) (.slice Ad ds.length kd) b' (o' + q * 6) (.string nx) (.slice Ax' px.length kx') (.string tn) (.int .i64 (tl : Int)) (.int .i64 (tm : Int)) (.slice Ad' ds.length kd') w')
        (first
          | exact KS66.written (KS66.next hE0 HBW.out HBW'.out (Below.drew (Below.refl _ _)))
          | exact KS66.written ((KS66.next hE0 HBW.out HBW'.out (Below.drew (Below.refl _ _))).next HBW.out HBW'.out (by assumption))
          | exact KS66.written (KS66.next hE0 HBW.out HBW'.out (by assumption))
          | exact KS66.written (KS66.next (by assumption) HBW.out HBW'.out (by assumption))
          | go_keep)
        ((first | (go_at_call 32; refine (C _ (by first | exact Below.drew (Below.refl _ _) | exact Below.refl _ _ | assumption)).out.mono ?_; rintro e w' ⟨rfl, hb⟩)))
      all_goals
        have HKM : KS66 w (.int .i64 k) (.string nm) (.slice Af fs.length kf) (.slice (some ⟨b, o, none⟩) fl.length kl) (.slice Aq qs.length kq) (.slice Ap ps.length kp) (.int .i64 k) (.string nm) (.slice Af' fs.length kf') (.slice (some ⟨b', o', none⟩) fl.length kl') (.slice Aq' qs.length kq') (.slice Ap' ps.length kp') b (o + q * 6) (.string nx) (.slice Ax px.length kx) (.string tn) (.int .i64 (tl : Int)) (.int .i64 (tm : Int)) (.slice Ad ds.length kd) b' (o' + q * 6) (.string nx) (.slice Ax' px.length kx') (.string tn) (.int .i64 (tl : Int)) (.int .i64 (tm : Int)) (.slice Ad' ds.length kd') w' := And.right (And.right (And.right (And.right (And.right (And.right (And.right (And.right (And.right (And.right (And.right (And.right (And.right (And.right (by assumption))))))))))))))
        have HKB := Lib.hid HKM.2
        clear HKM hE0 C p0 p1 g0 g1 g2 g3 g4 g5 f0 f1 f2 f3 f4 f5
        go_wp2_with fail
        go_roundg g
        case measure => omega
        case rel => exact ⟨q + 1, by omega, by go_num, HKB.out⟩
end Go.Proofs.Ytmamgaifpjgfkaa
