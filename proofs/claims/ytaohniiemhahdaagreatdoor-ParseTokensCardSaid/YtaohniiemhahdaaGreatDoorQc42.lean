/- seineref6.SameDoc over equal documents. -/
import Derived.Test.YtaohniiemhahdaaGreatDoorQc41
import Derived.Test.YtaohniiemhahdaaGreatDoorQc33
namespace Go.Proofs.YtaohniiemhahdaaGreatDoor
open Go.RowKit

def BK2 (w : World) (x y : Nat) (c0 c1 d0 d1 : Value) (W : World) : Prop :=
  (W.cell? ⟨x, 0, none⟩ = some c0 ∧ W.cell? ⟨x, 1, none⟩ = some c1 ∧ W.cell? ⟨y, 0, none⟩ = some d0 ∧ W.cell? ⟨y, 1, none⟩ = some d1) ∧ x < W.heap.size ∧ y < W.heap.size ∧ Below w.heap.size w W
theorem BK2.cells {w W : World} {x y : Nat} {c0 c1 d0 d1 : Value} (h : BK2 w x y c0 c1 d0 d1 W) : W.cell? ⟨x, 0, none⟩ = some c0 ∧ W.cell? ⟨x, 1, none⟩ = some c1 ∧ W.cell? ⟨y, 0, none⟩ = some d0 ∧ W.cell? ⟨y, 1, none⟩ = some d1 := h.1
theorem BK2.below {w W : World} {x y : Nat} {c0 c1 d0 d1 : Value} (h : BK2 w x y c0 c1 d0 d1 W) : Below w.heap.size w W := h.2.2.2
theorem BK2.next {w W W' : World} {x y : Nat} {c0 c1 d0 d1 : Value} (h : BK2 w x y c0 c1 d0 d1 W) (hb : Below W.heap.size W W') : BK2 w x y c0 c1 d0 d1 W' := by
  obtain ⟨⟨g0, g1, f0, f1⟩, hx, hy, hB⟩ := h
  exact ⟨⟨(hb.cell (p := ⟨x, _, none⟩) hx).trans g0, (hb.cell (p := ⟨x, _, none⟩) hx).trans g1, (hb.cell (p := ⟨y, _, none⟩) hy).trans f0, (hb.cell (p := ⟨y, _, none⟩) hy).trans f1⟩, Nat.lt_of_lt_of_le hx hb.size, Nat.lt_of_lt_of_le hy hb.size, hB.trans (hb.mono hB.size)⟩
theorem BK2.start (w : World) (c0 c1 d0 d1 : Value) (t : TypeId) : BK2 w (w.heap.size) (w.heap.size + 1) c0 c1 d0 d1 ((w.alloc (.cells #[c0, c1] t)).alloc (.cells #[d0, d1] t)) := by
  have k0 : ((w.alloc (.cells #[c0, c1] t)).alloc (.cells #[d0, d1] t)).heap[w.heap.size]? = some (.cells #[c0, c1] t) := by
    show ((w.alloc (.cells #[c0, c1] t)).alloc (.cells #[d0, d1] t)).heap[w.heap.size]? = _
    rw [Below.heap_alloc _ _ _ (by simp)]
    show (w.heap.push _)[w.heap.size]? = _; simp
  have k1 : ((w.alloc (.cells #[c0, c1] t)).alloc (.cells #[d0, d1] t)).heap[w.heap.size + 1]? = some (.cells #[d0, d1] t) := by
    show ((w.heap.push _).push _)[w.heap.size + 1]? = _
    rw [Array.getElem?_push, if_pos (by simp)]
  refine ⟨⟨?_, ?_, ?_, ?_⟩, ?_, ?_, ((Below.refl _ _).alloc (Nat.le_refl _) _).alloc (by simp) _⟩
  all_goals first | (simp only [World.cell?]; first | (rw [k0]; rfl) | (rw [k1]; rfl)) | (show _ < ((w.heap.push _).push _).size; simp; done) | (show _ < ((w.heap.push _).push _).size; simp; omega)
theorem encOp_len (x : OpT) : (encOp x).len = 5 := rfl
theorem encF_len (x : FragT) : (encF x).len = 4 := rfl
theorem op_at {w : World} {B : Nat} {l : List OpT} {A : Option Addr} {q : Nat} {k : Int} {n : ByteArray} {vars : List VarT} {ds : List DirT} {ss : SelL} (h : RowT w (fun b => b < B) (rowOf encOp l) A) (hx : l[q]? = some ⟨k, n, vars, ds, ss⟩) :
    ∃ b p Av kv Ad kd As ks, A = some ⟨b, p, none⟩ ∧ b < B ∧ (w.cell? ⟨b, p + q * 5, none⟩ = some (.int .i64 k) ∧ w.cell? ⟨b, p + q * 5 + 1, none⟩ = some (.string n) ∧ w.cell? ⟨b, p + q * 5 + 2, none⟩ = some (.slice Av vars.length kv) ∧ w.cell? ⟨b, p + q * 5 + 3, none⟩ = some (.slice Ad ds.length kd) ∧ w.cell? ⟨b, p + q * 5 + 4, none⟩ = some (.slice As ss.len ks)) ∧ OpAt w B vars ds ss Av Ad As := by
  obtain ⟨b, p, cs, e, hb, hc, h1⟩ := rowOf_at 5 encOp_len h hx
  simp only [encOp, TS, TP] at h1
  obtain ⟨c0, _, rfl, ⟨rfl, _⟩, c1, _, rfl, ⟨rfl, _⟩, c2, _, rfl, ⟨Av, kv, rfl, hvl, hV⟩, c3, _, rfl, ⟨Ad, kd, rfl, hdl, hD⟩, c4, _, rfl, ⟨As, ks, rfl, hsl, hS⟩, rfl⟩ := h1
  rw [rowOf_len] at hvl hdl
  rw [encSL_len] at hsl
  rw [rowOf_len, rowOf_len, encSL_len] at hc
  exact ⟨b, p, Av, kv, Ad, kd, As, ks, e, hb, ⟨hc 0 _ rfl, hc 1 _ rfl, hc 2 _ rfl, hc 3 _ rfl, hc 4 _ rfl⟩, hvl, hV, hdl, hsl, hD, hS⟩
theorem fragm_at {w : World} {B : Nat} {l : List FragT} {A : Option Addr} {q : Nat} {a n : ByteArray} {ds : List DirT} {ss : SelL} (h : RowT w (fun b => b < B) (rowOf encF l) A) (hx : l[q]? = some ⟨a, n, ds, ss⟩) :
    ∃ b p Ad kd As ks, A = some ⟨b, p, none⟩ ∧ b < B ∧ (w.cell? ⟨b, p + q * 4, none⟩ = some (.string a) ∧ w.cell? ⟨b, p + q * 4 + 1, none⟩ = some (.string n) ∧ w.cell? ⟨b, p + q * 4 + 2, none⟩ = some (.slice Ad ds.length kd) ∧ w.cell? ⟨b, p + q * 4 + 3, none⟩ = some (.slice As ss.len ks)) ∧ FragAt w B ds ss Ad As := by
  obtain ⟨b, p, cs, e, hb, hc, h1⟩ := rowOf_at 4 encF_len h hx
  simp only [encF, TS, TP] at h1
  obtain ⟨c0, _, rfl, ⟨rfl, _⟩, c1, _, rfl, ⟨rfl, _⟩, c2, _, rfl, ⟨Ad, kd, rfl, hdl, hD⟩, c3, _, rfl, ⟨As, ks, rfl, hsl, hS⟩, rfl⟩ := h1
  rw [rowOf_len] at hdl
  rw [encSL_len] at hsl
  rw [rowOf_len, encSL_len] at hc
  exact ⟨b, p, Ad, kd, As, ks, e, hb, ⟨hc 0 _ rfl, hc 1 _ rfl, hc 2 _ rfl, hc 3 _ rfl⟩, hdl, hsl, hD, hS⟩
def KO5 (w : World) (s0 s1 r0 r1 : Value) (b O : Nat) (c0 c1 c2 c3 c4 : Value) (b' O' : Nat) (d0 d1 d2 d3 d4 : Value) (W : World) : Prop :=
  (W.cell? ⟨b, O, none⟩ = some c0 ∧ W.cell? ⟨b, O + 1, none⟩ = some c1 ∧ W.cell? ⟨b, O + 2, none⟩ = some c2 ∧ W.cell? ⟨b, O + 3, none⟩ = some c3 ∧ W.cell? ⟨b, O + 4, none⟩ = some c4 ∧ W.cell? ⟨b', O', none⟩ = some d0 ∧ W.cell? ⟨b', O' + 1, none⟩ = some d1 ∧ W.cell? ⟨b', O' + 2, none⟩ = some d2 ∧ W.cell? ⟨b', O' + 3, none⟩ = some d3 ∧ W.cell? ⟨b', O' + 4, none⟩ = some d4) ∧ BK2 w w.heap.size (w.heap.size + 1) s0 s1 r0 r1 W
theorem KO5.next {w W : World} {s0 s1 r0 r1 : Value} {b O : Nat} {c0 c1 c2 c3 c4 : Value} {b' O' : Nat} {d0 d1 d2 d3 d4 : Value} {W' : World} (h : KO5 w s0 s1 r0 r1 b O c0 c1 c2 c3 c4 b' O' d0 d1 d2 d3 d4 W) (hl : b < w.heap.size) (hl' : b' < w.heap.size) (hb : Below W.heap.size W W') : KO5 w s0 s1 r0 r1 b O c0 c1 c2 c3 c4 b' O' d0 d1 d2 d3 d4 W' := by
  obtain ⟨⟨g0, g1, g2, g3, g4, f0, f1, f2, f3, f4⟩, hK⟩ := h
  have g := Nat.lt_of_lt_of_le hl hK.below.size
  have g' := Nat.lt_of_lt_of_le hl' hK.below.size
  exact ⟨⟨(hb.cell (p := ⟨b, _, none⟩) g).trans g0, (hb.cell (p := ⟨b, _, none⟩) g).trans g1, (hb.cell (p := ⟨b, _, none⟩) g).trans g2, (hb.cell (p := ⟨b, _, none⟩) g).trans g3, (hb.cell (p := ⟨b, _, none⟩) g).trans g4, (hb.cell (p := ⟨b', _, none⟩) g').trans f0, (hb.cell (p := ⟨b', _, none⟩) g').trans f1, (hb.cell (p := ⟨b', _, none⟩) g').trans f2, (hb.cell (p := ⟨b', _, none⟩) g').trans f3, (hb.cell (p := ⟨b', _, none⟩) g').trans f4⟩, hK.next hb⟩
theorem KO5.written {w W : World} {s0 s1 r0 r1 : Value} {b O : Nat} {c0 c1 c2 c3 c4 : Value} {b' O' : Nat} {d0 d1 d2 d3 d4 : Value} (h : KO5 w s0 s1 r0 r1 b O c0 c1 c2 c3 c4 b' O' d0 d1 d2 d3 d4 W) : W.cell? ⟨w.heap.size, 0, none⟩ = some s0 ∧ W.cell? ⟨w.heap.size + 1, 0, none⟩ = some r0 ∧ W.cell? ⟨b, O, none⟩ = some c0 ∧ W.cell? ⟨b, O + 1, none⟩ = some c1 ∧ W.cell? ⟨b, O + 2, none⟩ = some c2 ∧ W.cell? ⟨b, O + 3, none⟩ = some c3 ∧ W.cell? ⟨b, O + 4, none⟩ = some c4 ∧ W.cell? ⟨b', O', none⟩ = some d0 ∧ W.cell? ⟨b', O' + 1, none⟩ = some d1 ∧ W.cell? ⟨b', O' + 2, none⟩ = some d2 ∧ W.cell? ⟨b', O' + 3, none⟩ = some d3 ∧ W.cell? ⟨b', O' + 4, none⟩ = some d4 ∧ KO5 w s0 s1 r0 r1 b O c0 c1 c2 c3 c4 b' O' d0 d1 d2 d3 d4 W := by
  obtain ⟨⟨g0, g1, g2, g3, g4, f0, f1, f2, f3, f4⟩, hK⟩ := h
  exact ⟨hK.1.1, hK.1.2.2.1, g0, g1, g2, g3, g4, f0, f1, f2, f3, f4, ⟨g0, g1, g2, g3, g4, f0, f1, f2, f3, f4⟩, hK⟩
def KO4 (w : World) (s0 s1 r0 r1 : Value) (b O : Nat) (c0 c1 c2 c3 : Value) (b' O' : Nat) (d0 d1 d2 d3 : Value) (W : World) : Prop :=
  (W.cell? ⟨b, O, none⟩ = some c0 ∧ W.cell? ⟨b, O + 1, none⟩ = some c1 ∧ W.cell? ⟨b, O + 2, none⟩ = some c2 ∧ W.cell? ⟨b, O + 3, none⟩ = some c3 ∧ W.cell? ⟨b', O', none⟩ = some d0 ∧ W.cell? ⟨b', O' + 1, none⟩ = some d1 ∧ W.cell? ⟨b', O' + 2, none⟩ = some d2 ∧ W.cell? ⟨b', O' + 3, none⟩ = some d3) ∧ BK2 w w.heap.size (w.heap.size + 1) s0 s1 r0 r1 W
theorem KO4.next {w W : World} {s0 s1 r0 r1 : Value} {b O : Nat} {c0 c1 c2 c3 : Value} {b' O' : Nat} {d0 d1 d2 d3 : Value} {W' : World} (h : KO4 w s0 s1 r0 r1 b O c0 c1 c2 c3 b' O' d0 d1 d2 d3 W) (hl : b < w.heap.size) (hl' : b' < w.heap.size) (hb : Below W.heap.size W W') : KO4 w s0 s1 r0 r1 b O c0 c1 c2 c3 b' O' d0 d1 d2 d3 W' := by
  obtain ⟨⟨g0, g1, g2, g3, f0, f1, f2, f3⟩, hK⟩ := h
  have g := Nat.lt_of_lt_of_le hl hK.below.size
  have g' := Nat.lt_of_lt_of_le hl' hK.below.size
  exact ⟨⟨(hb.cell (p := ⟨b, _, none⟩) g).trans g0, (hb.cell (p := ⟨b, _, none⟩) g).trans g1, (hb.cell (p := ⟨b, _, none⟩) g).trans g2, (hb.cell (p := ⟨b, _, none⟩) g).trans g3, (hb.cell (p := ⟨b', _, none⟩) g').trans f0, (hb.cell (p := ⟨b', _, none⟩) g').trans f1, (hb.cell (p := ⟨b', _, none⟩) g').trans f2, (hb.cell (p := ⟨b', _, none⟩) g').trans f3⟩, hK.next hb⟩
theorem KO4.written {w W : World} {s0 s1 r0 r1 : Value} {b O : Nat} {c0 c1 c2 c3 : Value} {b' O' : Nat} {d0 d1 d2 d3 : Value} (h : KO4 w s0 s1 r0 r1 b O c0 c1 c2 c3 b' O' d0 d1 d2 d3 W) : W.cell? ⟨w.heap.size, 1, none⟩ = some s1 ∧ W.cell? ⟨w.heap.size + 1, 1, none⟩ = some r1 ∧ W.cell? ⟨b, O, none⟩ = some c0 ∧ W.cell? ⟨b, O + 1, none⟩ = some c1 ∧ W.cell? ⟨b, O + 2, none⟩ = some c2 ∧ W.cell? ⟨b, O + 3, none⟩ = some c3 ∧ W.cell? ⟨b', O', none⟩ = some d0 ∧ W.cell? ⟨b', O' + 1, none⟩ = some d1 ∧ W.cell? ⟨b', O' + 2, none⟩ = some d2 ∧ W.cell? ⟨b', O' + 3, none⟩ = some d3 ∧ KO4 w s0 s1 r0 r1 b O c0 c1 c2 c3 b' O' d0 d1 d2 d3 W := by
  obtain ⟨⟨g0, g1, g2, g3, f0, f1, f2, f3⟩, hK⟩ := h
  exact ⟨hK.1.2.1, hK.1.2.2.2, g0, g1, g2, g3, f0, f1, f2, f3, ⟨g0, g1, g2, g3, f0, f1, f2, f3⟩, hK⟩
def DocAt (w : World) (B : Nat) (D : DocT) (Ao Af : Option Addr) : Prop :=
  D.ops.length ≤ 9223372036854775807 ∧ D.frags.length ≤ 9223372036854775807 ∧ RowT w (fun b => b < B) (rowOf encOp D.ops) Ao ∧ RowT w (fun b => b < B) (rowOf encF D.frags) Af

set_option maxRecDepth 100000 in
set_option maxHeartbeats 8000000 in
theorem sdoc_yes (D : DocT) (Ao Ao' Af Af' : Option Addr) (ko ko' kf kf' : Nat) (w : World) (B : Nat) (hB : B ≤ w.heap.size) (h1 : DocAt w B D Ao Af) (h2 : DocAt w B D Ao' Af') :
    Calls Tryz.prog 14 #[.agg #[.slice Ao D.ops.length ko, .slice Af D.frags.length kf], .agg #[.slice Ao' D.ops.length ko', .slice Af' D.frags.length kf']] w fun e w' => e = .returned (.bool true) ∧ Below w.heap.size w w' := by
  obtain ⟨hol, hfl, r10, r11⟩ := h1
  obtain ⟨_, _, r20, r21⟩ := h2
  have R10 := Lib.hid r10
  have R11 := Lib.hid r11
  have R20 := Lib.hid r20
  have R21 := Lib.hid r21
  have HB0 := Lib.hid hB
  clear r10 r11 r20 r21 hB
  have eO : ((D.ops.length : Int) != (D.ops.length : Int)) = false := by simp
  have eF : ((D.frags.length : Int) != (D.frags.length : Int)) = false := by simp
  go_enter Tryz.func14, Tryz.ntmps14
  have hW0 := Lib.hid (BK2.start w (.slice Ao D.ops.length ko) (.slice Af D.frags.length kf) (.slice Ao' D.ops.length ko') (.slice Af' D.frags.length kf') 26)
  go_wp2_with fail
  go_loopg [5] D.ops.length (fun g i wx => ∃ q : Nat, q + g = D.ops.length ∧ i = .int .i64 q ∧ BK2 w w.heap.size (w.heap.size + 1) (.slice Ao D.ops.length ko) (.slice Af D.frags.length kf) (.slice Ao' D.ops.length ko') (.slice Af' D.frags.length kf') wx)
  case atStart => exact ⟨0, by omega, rfl, hW0.out⟩
  case round =>
    clear hW0
    obtain ⟨q, hq, rfl, hb⟩ := hrel
    have HK := Lib.hid hb
    have HBB := Lib.hid hb.below
    have hx1 : w.heap.size < wr.heap.size := hb.2.1
    have hx2 : w.heap.size + 1 < wr.heap.size := hb.2.2.1
    obtain ⟨q0, q1, q2, q3⟩ := hb.cells
    clear hb
    cases gk with
    | zero =>
      obtain rfl : q = D.ops.length := by omega
      go_wp2_with fail
      go_loopg [6] D.frags.length (fun g i wx => ∃ q : Nat, q + g = D.frags.length ∧ i = .int .i64 q ∧ BK2 w w.heap.size (w.heap.size + 1) (.slice Ao D.ops.length ko) (.slice Af D.frags.length kf) (.slice Ao' D.ops.length ko') (.slice Af' D.frags.length kf') wx)
      case atStart => exact ⟨0, by omega, rfl, HK.out⟩
      case round =>
        clear q0 q1 q2 q3 hx1 hx2 HK HBB
        obtain ⟨q, hq, rfl, hb⟩ := hrel
        have HK := Lib.hid hb
        have HBB := Lib.hid hb.below
        have hx1 : w.heap.size < wr.heap.size := hb.2.1
        have hx2 : w.heap.size + 1 < wr.heap.size := hb.2.2.1
        obtain ⟨q0, q1, q2, q3⟩ := hb.cells
        clear hb
        cases gk with
        | zero =>
          obtain rfl : q = D.frags.length := by omega
          go_wp2_with fail
          go_ret
          exact ⟨rfl, HBB.out⟩
        | succ g =>
          clear q0 q1 q2 q3
          have hqn : q < D.frags.length := by omega
          have hqn' : (q : Int) < (D.frags.length : Int) := by omega
          obtain ⟨⟨a, n, ds, ss⟩, hv⟩ : ∃ x, D.frags[q]? = some x := ⟨_, List.getElem?_eq_getElem hqn⟩
          obtain ⟨b, o, Ad, kd, As, ks, rfl, hblt, ⟨g0, g1, g2, g3⟩, V1⟩ := fragm_at (RowT.below (HBB.out.mono HB0.out) R11.out) hv
          obtain ⟨b', o', Ad', kd', As', ks', rfl, hblt', ⟨f0, f1, f2, f3⟩, V2⟩ := fragm_at (RowT.below (HBB.out.mono HB0.out) R21.out) hv
          have HBX := Nat.le_trans HB0.out HBB.out.size
          have HBW : Hid (b < w.heap.size) := Lib.hid (Nat.lt_of_lt_of_le hblt HB0.out)
          have HBW' : Hid (b' < w.heap.size) := Lib.hid (Nat.lt_of_lt_of_le hblt' HB0.out)
          have hE0 : KO4 w (.slice Ao D.ops.length ko) (.slice (some ⟨b, o, none⟩) D.frags.length kf) (.slice Ao' D.ops.length ko') (.slice (some ⟨b', o', none⟩) D.frags.length kf') b (o + q * 4) (.string a) (.string n) (.slice Ad ds.length kd) (.slice As ss.len ks) b' (o' + q * 4) (.string a) (.string n) (.slice Ad' ds.length kd') (.slice As' ss.len ks') wr := ⟨⟨g0, g1, g2, g3, f0, f1, f2, f3⟩, HK.out⟩
          have C := fun (wx : World) (hx : Below wr.heap.size wr wx) => Lib.hid (sfrag_yes a n ds ss Ad Ad' As As' kd kd' ks ks' wx B (Nat.le_trans HBX hx.size) (FragAt.below (hx.mono HBX) V1) (FragAt.below (hx.mono HBX) V2))
          have hp := hE0.written
          clear V1 V2 hv hblt hblt' HBX g0 g1 g2 g3 f0 f1 f2 f3
          obtain ⟨p0, p1, g0, g1, g2, g3, f0, f1, f2, f3, _⟩ := hp
          go_wp2_with fail
          go_region_held3 (fun w' => w'.cell? ⟨w.heap.size, 1, none⟩ = some (.slice (some ⟨b, o, none⟩) D.frags.length kf) ∧ w'.cell? ⟨w.heap.size + 1, 1, none⟩ = some (.slice (some ⟨b', o', none⟩) D.frags.length kf') ∧ w'.cell? ⟨b, o + q * 4, none⟩ = some (.string a) ∧ w'.cell? ⟨b, o + q * 4 + 1, none⟩ = some (.string n) ∧ w'.cell? ⟨b, o + q * 4 + 2, none⟩ = some (.slice Ad ds.length kd) ∧ w'.cell? ⟨b, o + q * 4 + 3, none⟩ = some (.slice As ss.len ks) ∧ w'.cell? ⟨b', o' + q * 4, none⟩ = some (.string a) ∧ w'.cell? ⟨b', o' + q * 4 + 1, none⟩ = some (.string n) ∧ w'.cell? ⟨b', o' + q * 4 + 2, none⟩ = some (.slice Ad' ds.length kd') ∧ w'.cell? ⟨b', o' + q * 4 + 3, none⟩ = some (.slice As' ss.len ks') ∧ KO4 w (.slice Ao D.ops.length ko) (.slice (some ⟨b, o, none⟩) D.frags.length kf) (.slice Ao' D.ops.length ko') (.slice (some ⟨b', o', none⟩) D.frags.length kf') b (o + q * 4) (.string a) (.string n) (.slice Ad ds.length kd) (.slice As ss.len ks) b' (o' + q * 4) (.string a) (.string n) (.slice Ad' ds.length kd') (.slice As' ss.len ks') w')
            (first
              | exact KO4.written (KO4.next hE0 HBW.out HBW'.out (Below.drew (Below.refl _ _)))
              | exact KO4.written ((KO4.next hE0 HBW.out HBW'.out (Below.drew (Below.refl _ _))).next HBW.out HBW'.out (by assumption))
              | exact KO4.written (KO4.next hE0 HBW.out HBW'.out (by assumption))
              | exact KO4.written (KO4.next (by assumption) HBW.out HBW'.out (by assumption))
              | go_keep)
            ((first | (go_at_call 32; refine (C _ (by first | exact Below.drew (Below.refl _ _) | exact Below.refl _ _ | assumption)).out.mono ?_; rintro e w' ⟨rfl, hb⟩)))
          all_goals
            have HKM : KO4 w (.slice Ao D.ops.length ko) (.slice (some ⟨b, o, none⟩) D.frags.length kf) (.slice Ao' D.ops.length ko') (.slice (some ⟨b', o', none⟩) D.frags.length kf') b (o + q * 4) (.string a) (.string n) (.slice Ad ds.length kd) (.slice As ss.len ks) b' (o' + q * 4) (.string a) (.string n) (.slice Ad' ds.length kd') (.slice As' ss.len ks') w' := And.right (And.right (And.right (And.right (And.right (And.right (And.right (And.right (And.right (And.right (by assumption))))))))))
            have HKB := Lib.hid HKM.2
            clear HKM hE0 C p0 p1 g0 g1 g2 g3 f0 f1 f2 f3
            go_wp2_with fail
            go_roundg g
            case measure => omega
            case rel => exact ⟨q + 1, by omega, by go_num, HKB.out⟩
    | succ g =>
      clear q0 q1 q2 q3
      have hqn : q < D.ops.length := by omega
      have hqn' : (q : Int) < (D.ops.length : Int) := by omega
      obtain ⟨⟨k, n, vars, ds, ss⟩, hv⟩ : ∃ x, D.ops[q]? = some x := ⟨_, List.getElem?_eq_getElem hqn⟩
      obtain ⟨b, o, Av, kv, Ad, kd, As, ks, rfl, hblt, ⟨g0, g1, g2, g3, g4⟩, V1⟩ := op_at (RowT.below (HBB.out.mono HB0.out) R10.out) hv
      obtain ⟨b', o', Av', kv', Ad', kd', As', ks', rfl, hblt', ⟨f0, f1, f2, f3, f4⟩, V2⟩ := op_at (RowT.below (HBB.out.mono HB0.out) R20.out) hv
      have HBX := Nat.le_trans HB0.out HBB.out.size
      have HBW : Hid (b < w.heap.size) := Lib.hid (Nat.lt_of_lt_of_le hblt HB0.out)
      have HBW' : Hid (b' < w.heap.size) := Lib.hid (Nat.lt_of_lt_of_le hblt' HB0.out)
      have hE0 : KO5 w (.slice (some ⟨b, o, none⟩) D.ops.length ko) (.slice Af D.frags.length kf) (.slice (some ⟨b', o', none⟩) D.ops.length ko') (.slice Af' D.frags.length kf') b (o + q * 5) (.int .i64 k) (.string n) (.slice Av vars.length kv) (.slice Ad ds.length kd) (.slice As ss.len ks) b' (o' + q * 5) (.int .i64 k) (.string n) (.slice Av' vars.length kv') (.slice Ad' ds.length kd') (.slice As' ss.len ks') wr := ⟨⟨g0, g1, g2, g3, g4, f0, f1, f2, f3, f4⟩, HK.out⟩
      have C := fun (wx : World) (hx : Below wr.heap.size wr wx) => Lib.hid (sop_yes k n vars ds ss Av Av' Ad Ad' As As' kv kv' kd kd' ks ks' wx B (Nat.le_trans HBX hx.size) (OpAt.below (hx.mono HBX) V1) (OpAt.below (hx.mono HBX) V2))
      have hp := hE0.written
      clear V1 V2 hv hblt hblt' HBX g0 g1 g2 g3 g4 f0 f1 f2 f3 f4
      obtain ⟨p0, p1, g0, g1, g2, g3, g4, f0, f1, f2, f3, f4, _⟩ := hp
      go_wp2_with fail
      go_region_held3 (fun w' => w'.cell? ⟨w.heap.size, 0, none⟩ = some (.slice (some ⟨b, o, none⟩) D.ops.length ko) ∧ w'.cell? ⟨w.heap.size + 1, 0, none⟩ = some (.slice (some ⟨b', o', none⟩) D.ops.length ko') ∧ w'.cell? ⟨b, o + q * 5, none⟩ = some (.int .i64 k) ∧ w'.cell? ⟨b, o + q * 5 + 1, none⟩ = some (.string n) ∧ w'.cell? ⟨b, o + q * 5 + 2, none⟩ = some (.slice Av vars.length kv) ∧ w'.cell? ⟨b, o + q * 5 + 3, none⟩ = some (.slice Ad ds.length kd) ∧ w'.cell? ⟨b, o + q * 5 + 4, none⟩ = some (.slice As ss.len ks) ∧ w'.cell? ⟨b', o' + q * 5, none⟩ = some (.int .i64 k) ∧ w'.cell? ⟨b', o' + q * 5 + 1, none⟩ = some (.string n) ∧ w'.cell? ⟨b', o' + q * 5 + 2, none⟩ = some (.slice Av' vars.length kv') ∧ w'.cell? ⟨b', o' + q * 5 + 3, none⟩ = some (.slice Ad' ds.length kd') ∧ w'.cell? ⟨b', o' + q * 5 + 4, none⟩ = some (.slice As' ss.len ks') ∧ KO5 w (.slice (some ⟨b, o, none⟩) D.ops.length ko) (.slice Af D.frags.length kf) (.slice (some ⟨b', o', none⟩) D.ops.length ko') (.slice Af' D.frags.length kf') b (o + q * 5) (.int .i64 k) (.string n) (.slice Av vars.length kv) (.slice Ad ds.length kd) (.slice As ss.len ks) b' (o' + q * 5) (.int .i64 k) (.string n) (.slice Av' vars.length kv') (.slice Ad' ds.length kd') (.slice As' ss.len ks') w')
        (first
          | exact KO5.written (KO5.next hE0 HBW.out HBW'.out (Below.drew (Below.refl _ _)))
          | exact KO5.written ((KO5.next hE0 HBW.out HBW'.out (Below.drew (Below.refl _ _))).next HBW.out HBW'.out (by assumption))
          | exact KO5.written (KO5.next hE0 HBW.out HBW'.out (by assumption))
          | exact KO5.written (KO5.next (by assumption) HBW.out HBW'.out (by assumption))
          | go_keep)
        ((first | (go_at_call 31; refine (C _ (by first | exact Below.drew (Below.refl _ _) | exact Below.refl _ _ | assumption)).out.mono ?_; rintro e w' ⟨rfl, hb⟩)))
      all_goals
        have HKM : KO5 w (.slice (some ⟨b, o, none⟩) D.ops.length ko) (.slice Af D.frags.length kf) (.slice (some ⟨b', o', none⟩) D.ops.length ko') (.slice Af' D.frags.length kf') b (o + q * 5) (.int .i64 k) (.string n) (.slice Av vars.length kv) (.slice Ad ds.length kd) (.slice As ss.len ks) b' (o' + q * 5) (.int .i64 k) (.string n) (.slice Av' vars.length kv') (.slice Ad' ds.length kd') (.slice As' ss.len ks') w' := And.right (And.right (And.right (And.right (And.right (And.right (And.right (And.right (And.right (And.right (And.right (And.right (by assumption))))))))))))
        have HKB := Lib.hid HKM.2
        clear HKM hE0 C p0 p1 g0 g1 g2 g3 g4 f0 f1 f2 f3 f4
        go_wp2_with fail
        go_roundg g
        case measure => omega
        case rel => exact ⟨q + 1, by omega, by go_num, HKB.out⟩
end Go.Proofs.YtaohniiemhahdaaGreatDoor
