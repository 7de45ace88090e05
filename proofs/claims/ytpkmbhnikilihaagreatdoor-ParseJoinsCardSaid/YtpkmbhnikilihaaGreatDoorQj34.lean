/- seineref6.SameDoc over equal documents. -/
import Derived.Test.YtpkmbhnikilihaaGreatDoorQj18
import Derived.Test.YtpkmbhnikilihaaGreatDoorQj33
namespace Go.Proofs.YtpkmbhnikilihaaGreatDoor
open Go.RowKit

def BK2 (w : World) (x y : Nat) (c0 c1 d0 d1 : Value) (W : World) : Prop :=
  (W.cell? ⟨x, 0, none⟩ = some c0 ∧ W.cell? ⟨x, 1, none⟩ = some c1 ∧ W.cell? ⟨y, 0, none⟩ = some d0 ∧ W.cell? ⟨y, 1, none⟩ = some d1) ∧ x < W.heap.size ∧ y < W.heap.size ∧ Below w.heap.size w W
theorem BK2.cells {w W : World} {x y : Nat} {c0 c1 d0 d1 : Value} (h : BK2 w x y c0 c1 d0 d1 W) : W.cell? ⟨x, 0, none⟩ = some c0 ∧ W.cell? ⟨x, 1, none⟩ = some c1 ∧ W.cell? ⟨y, 0, none⟩ = some d0 ∧ W.cell? ⟨y, 1, none⟩ = some d1 := h.1
theorem BK2.below {w W : World} {x y : Nat} {c0 c1 d0 d1 : Value} (h : BK2 w x y c0 c1 d0 d1 W) : Below w.heap.size w W := h.2.2.2
theorem BK2.next {w W W' : World} {x y : Nat} {c0 c1 d0 d1 : Value} (h : BK2 w x y c0 c1 d0 d1 W) (hb : Below W.heap.size W W') : BK2 w x y c0 c1 d0 d1 W' := by
  obtain ⟨⟨g0, g1, f0, f1⟩, hx, hy, hB⟩ := h
  exact ⟨⟨(hb.cell (p := ⟨x, _, none⟩) hx).trans g0, (hb.cell (p := ⟨x, _, none⟩) hx).trans g1, (hb.cell (p := ⟨y, _, none⟩) hy).trans f0, (hb.cell (p := ⟨y, _, none⟩) hy).trans f1⟩, Nat.lt_of_lt_of_le hx hb.size, Nat.lt_of_lt_of_le hy hb.size, hB.trans (hb.mono hB.size)⟩
theorem BK2.start (w : World) (c0 c1 d0 d1 : Value) (t : TypeId) : BK2 w (w.heap.size) (w.heap.size + 1) c0 c1 d0 d1 ((w.alloc (.cells #[c0, c1] t)).alloc (.cells #[d0, d1] t)) := by
  have k0 : ((w.alloc (.cells #[c0, c1] t)).alloc (.cells #[d0, d1] t)).heap[w.heap.size]? = some (.cells #[c0, c1] t) := by
    show ((w.alloc (.cells #[c0, c1] t)).alloc (.cells #[d0, d1] t)).heap[w.heap.size]? = _
    rw [Below.heap_alloc _ _ _ (by simp)]
    show (w.heap.push _)[w.heap.size]? = _; simp
  have k1 : ((w.alloc (.cells #[c0, c1] t)).alloc (.cells #[d0, d1] t)).heap[w.heap.size + 1]? = some (.cells #[d0, d1] t) := by
    show ((w.heap.push _).push _)[w.heap.size + 1]? = _
    rw [Array.getElem?_push, if_pos (by simp)]
  refine ⟨⟨?_, ?_, ?_, ?_⟩, ?_, ?_, ((Below.refl _ _).alloc (Nat.le_refl _) _).alloc (by simp) _⟩
  all_goals first | (simp only [World.cell?]; first | (rw [k0]; rfl) | (rw [k1]; rfl)) | (show _ < ((w.heap.push _).push _).size; simp; done) | (show _ < ((w.heap.push _).push _).size; simp; omega)
theorem encOp_len (x : OpT) : (encOp x).len = 5 := rfl
theorem encF_len (x : FragT) : (encF x).len = 4 := rfl
theorem op_at {w : World} {B : Nat} {l : List OpT} {A : Option Addr} {q : Nat} {k : Int} {n : ByteArray} {vars : List VarT} {ds : List DirT} {ss : SelL} (h : RowT w (fun b => b < B) (rowOf encOp l) A) (hx : l[q]? = some ⟨k, n, vars, ds, ss⟩) :
    ∃ b p Av kv Ad kd As ks, A = some ⟨b, p, none⟩ ∧ b < B ∧ (w.cell? ⟨b, p + q * 5, none⟩ = some (.int .i64 k) ∧ w.cell? ⟨b, p + q * 5 + 1, none⟩ = some (.string n) ∧ w.cell? ⟨b, p + q * 5 + 2, none⟩ = some (.slice Av vars.length kv) ∧ w.cell? ⟨b, p + q * 5 + 3, none⟩ = some (.slice Ad ds.length kd) ∧ w.cell? ⟨b, p + q * 5 + 4, none⟩ = some (.slice As ss.len ks)) ∧ OpAt w B vars ds ss Av Ad As := by
  obtain ⟨b, p, cs, e, hb, hc, h1⟩ := rowOf_at 5 encOp_len h hx
  simp only [encOp, TS, TP] at h1
  obtain ⟨c0, _, rfl, ⟨rfl, _⟩, c1, _, rfl, ⟨rfl, _⟩, c2, _, rfl, ⟨Av, kv, rfl, hvl, hV⟩, c3, _, rfl, ⟨Ad, kd, rfl, hdl, hD⟩, c4, _, rfl, ⟨As, ks, rfl, hsl, hS⟩, rfl⟩ := h1
  rw [rowOf_len] at hvl hdl
  rw [encSL_len] at hsl
  rw [rowOf_len, rowOf_len, encSL_len] at hc
  exact ⟨b, p, Av, kv, Ad, kd, As, ks, e, hb, ⟨hc 0 _ rfl, hc 1 _ rfl, hc 2 _ rfl, hc 3 _ rfl, hc 4 _ rfl⟩, hvl, hV, hdl, hsl, hD, hS⟩
theorem fragm_at {w : World} {B : Nat} {l : List FragT} {A : Option Addr} {q : Nat} {a n : ByteArray} {ds : List DirT} {ss : SelL} (h : RowT w (fun b => b < B) (rowOf encF l) A) (hx : l[q]? = some ⟨a, n, ds, ss⟩) :
    ∃ b p Ad kd As ks, A = some ⟨b, p, none⟩ ∧ b < B ∧ (w.cell? ⟨b, p + q * 4, none⟩ = some (.string a) ∧ w.cell? ⟨b, p + q * 4 + 1, none⟩ = some (.string n) ∧ w.cell? ⟨b, p + q * 4 + 2, none⟩ = some (.slice Ad ds.length kd) ∧ w.cell? ⟨b, p + q * 4 + 3, none⟩ = some (.slice As ss.len ks)) ∧ FragAt w B ds ss Ad As := by
  obtain ⟨b, p, cs, e, hb, hc, h1⟩ := rowOf_at 4 encF_len h hx
  simp only [encF, TS, TP] at h1
  obtain ⟨c0, _, rfl, ⟨rfl, _⟩, c1, _, rfl, ⟨rfl, _⟩, c2, _, rfl, ⟨Ad, kd, rfl, hdl, hD⟩, c3, _, rfl, ⟨As, ks, rfl, hsl, hS⟩, rfl⟩ := h1
  rw [rowOf_len] at hdl
  rw [encSL_len] at hsl
  rw [rowOf_len, encSL_len] at hc
  exact ⟨b, p, Ad, kd, As, ks, e, hb, ⟨hc 0 _ rfl, hc 1 _ rfl, hc 2 _ rfl, hc 3 _ rfl⟩, hdl, hsl, hD, hS⟩
def KO5 (w : World) (s0 s1 r0 r1 : Value) (b O : Nat) (c0 c1 c2 c3 c4 : Value) (b' O' : Nat) (d0 d1 d2 d3 d4 : Value) (W : World) : Prop :=
  (W.cell? ⟨b, O, none⟩ = some c0 ∧ W.cell? ⟨b, O + 1, none⟩ = some c1 ∧ W.cell? ⟨b, O + 2, none⟩ = some c2 ∧ W.cell? ⟨b, O + 3, none⟩ = some c3 ∧ W.cell? ⟨b, O + 4, none⟩ = some c4 ∧ W.cell? ⟨b', O', none⟩ = some d0 ∧ W.cell? ⟨b', O' + 1, none⟩ = some d1 ∧ W.cell? ⟨b', O' + 2, none⟩ = some d2 ∧ W.cell? ⟨b', O' + 3, none⟩ = some d3 ∧ W.cell? ⟨b', O' + 4, none⟩ = some d4) ∧ BK2 w w.heap.size (w.heap.size + 1) s0 s1 r0 r1 W
theorem KO5.next {w W : World} {s0 s1 r0 r1 : Value} {b O : Nat} {c0 c1 c2 c3 c4 : Value} {b' O' : Nat} {d0 d1 d2 d3 d4 : Value} {W' : World} (h : KO5 w s0 s1 r0 r1 b O c0 c1 c2 c3 c4 b' O' d0 d1 d2 d3 d4 W) (hl : b < w.heap.size) (hl' : b' < w.heap.size) (hb : Below W.heap.size W W') : KO5 w s0 s1 r0 r1 b O c0 c1 c2 c3 c4 b' O' d0 d1 d2 d3 d4 W' := by
  obtain ⟨⟨g0, g1, g2, g3, g4, f0, f1, f2, f3, f4⟩, hK⟩ := h
  have g := Nat.lt_of_lt_of_le hl hK.below.size
  have g' := Nat.lt_of_lt_of_le hl' hK.below.size
  exact ⟨⟨(hb.cell (p := ⟨b, _, none⟩) g).trans g0, (hb.cell (p := ⟨b, _, none⟩) g).trans g1, (hb.cell (p := ⟨b, _, none⟩) g).trans g2, (hb.cell (p := ⟨b, _, none⟩) g).trans g3, (hb.cell (p := ⟨b, _, none⟩) g).trans g4, (hb.cell (p := ⟨b', _, none⟩) g').trans f0, (hb.cell (p := ⟨b', _, none⟩) g').trans f1, (hb.cell (p := ⟨b', _, none⟩) g').trans f2, (hb.cell (p := ⟨b', _, none⟩) g').trans f3, (hb.cell (p := ⟨b', _, none⟩) g').trans f4⟩, hK.next hb⟩
theorem KO5.written {w W : World} {s0 s1 r0 r1 : Value} {b O : Nat} {c0 c1 c2 c3 c4 : Value} {b' O' : Nat} {d0 d1 d2 d3 d4 : Value} (h : KO5 w s0 s1 r0 r1 b O c0 c1 c2 c3 c4 b' O' d0 d1 d2 d3 d4 W) : W.cell? ⟨w.heap.size, 0, none⟩ = some s0 ∧ W.cell? ⟨w.heap.size + 1, 0, none⟩ = some r0 ∧ W.cell? ⟨b, O, none⟩ = some c0 ∧ W.cell? ⟨b, O + 1, none⟩ = some c1 ∧ W.cell? ⟨b, O + 2, none⟩ = some c2 ∧ W.cell? ⟨b, O + 3, none⟩ = some c3 ∧ W.cell? ⟨b, O + 4, none⟩ = some c4 ∧ W.cell? ⟨b', O', none⟩ = some d0 ∧ W.cell? ⟨b', O' + 1, none⟩ = some d1 ∧ W.cell? ⟨b', O' + 2, none⟩ = some d2 ∧ W.cell? ⟨b', O' + 3, none⟩ = some d3 ∧ W.cell? ⟨b', O' + 4, none⟩ = some d4 ∧ KO5 w s0 s1 r0 r1 b O c0 c1 c2 c3 c4 b' O' d0 d1 d2 d3 d4 W := by
  obtain ⟨⟨g0, g1, g2, g3, g4, f0, f1, f2, f3, f4⟩, hK⟩ := h
  exact ⟨hK.1.1, hK.1.2.2.1, g0, g1, g2, g3, g4, f0, f1, f2, f3, f4, ⟨g0, g1, g2, g3, g4, f0, f1, f2, f3, f4⟩, hK⟩
def KO4 (w : World) (s0 s1 r0 r1 : Value) (b O : Nat) (c0 c1 c2 c3 : Value) (b' O' : Nat) (d0 d1 d2 d3 : Value) (W : World) : Prop :=
  (W.cell? ⟨b, O, none⟩ = some c0 ∧ W.cell? ⟨b, O + 1, none⟩ = some c1 ∧ W.cell? ⟨b, O + 2, none⟩ = some c2 ∧ W.cell? ⟨b, O + 3, none⟩ = some c3 ∧ W.cell? ⟨b', O', none⟩ = some d0 ∧ W.cell? ⟨b', O' + 1, none⟩ = some d1 ∧ W.cell? ⟨b', O' + 2, none⟩ = some d2 ∧ W.cell? ⟨b', O' + 3, none⟩ = some d3) ∧ BK2 w w.heap.size (w.heap.size + 1) s0 s1 r0 r1 W
theorem KO4.next {w W : World} {s0 s1 r0 r1 : Value} {b O : Nat} {c0 c1 c2 c3 : Value} {b' O' : Nat} {d0 d1 d2 d3 : Value} {W' : World} (h : KO4 w s0 s1 r0 r1 b O c0 c1 c2 c3 b' O' d0 d1 d2 d3 W) (hl : b < w.heap.size) (hl' : b' < w.heap.size) (hb : Below W.heap.size W W') : KO4 w s0 s1 r0 r1 b O c0 c1 c2 c3 b' O' d0 d1 d2 d3 W' := by
  obtain ⟨⟨g0, g1, g2, g3, f0, f1, f2, f3⟩, hK⟩ := h
  have g := Nat.lt_of_lt_of_le hl hK.below.size
  have g' := Nat.lt_of_lt_of_le hl' hK.below.size
  exact ⟨⟨(hb.cell (p := ⟨b, _, none⟩) g).trans g0, (hb.cell (p := ⟨b, _, none⟩) g).trans g1, (hb.cell (p := ⟨b, _, none⟩) g).trans g2, (hb.cell (p := ⟨b, _, none⟩) g).trans g3, (hb.cell (p := ⟨b', _, none⟩) g').trans f0, (hb.cell (p := ⟨b', _, none⟩) g').trans f1, (hb.cell (p := ⟨b', _, none⟩) g').trans f2, (hb.cell (p := ⟨b', _, none⟩) g').trans f3⟩, hK.next hb⟩
theorem KO4.written {w W : World} {s0 s1 r0 r1 : Value} {b O : Nat} {c0 c1 c2 c3 : Value} {b' O' : Nat} {d0 d1 d2 d3 : Value} (h : KO4 w s0 s1 r0 r1 b O c0 c1 c2 c3 b' O' d0 d1 d2 d3 W) : W.cell? ⟨w.heap.size, 1, none⟩ = some s1 ∧ W.cell? ⟨w.heap.size + 1, 1, none⟩ = some r1 ∧ W.cell? ⟨b, O, none⟩ = some c0 ∧ W.cell? ⟨b, O + 1, none⟩ = some c1 ∧ W.cell? ⟨b, O + 2, none⟩ = some c2 ∧ W.cell? ⟨b, O + 3, none⟩ = some c3 ∧ W.cell? ⟨b', O', none⟩ = some d0 ∧ W.cell? ⟨b', O' + 1, none⟩ = some d1 ∧ W.cell? ⟨b', O' + 2, none⟩ = some d2 ∧ W.cell? ⟨b', O' + 3, none⟩ = some d3 ∧ KO4 w s0 s1 r0 r1 b O c0 c1 c2 c3 b' O' d0 d1 d2 d3 W := by
  obtain ⟨⟨g0, g1, g2, g3, f0, f1, f2, f3⟩, hK⟩ := h
  exact ⟨hK.1.2.1, hK.1.2.2.2, g0, g1, g2, g3, f0, f1, f2, f3, ⟨g0, g1, g2, g3, f0, f1, f2, f3⟩, hK⟩
def DocAt (w : World) (B : Nat) (D : DocT) (Ao Af : Option Addr) : Prop :=
  D.ops.length ≤ 9223372036854775807 ∧ D.frags.length ≤ 9223372036854775807 ∧ RowT w (fun b => b < B) (rowOf encOp D.ops) Ao ∧ RowT w (fun b => b < B) (rowOf encF D.frags) Af

set_option maxRecDepth 100000 in
set_option maxHeartbeats 8000000 in
theorem sdoc_yes (D : DocT) (Ao Ao' Af Af' : Option Addr) (ko ko' kf kf' : Nat) (w : World) (B : Nat) (hB : B ≤ w.heap.size) (h1 : DocAt w B D Ao Af) (h2 : DocAt w B D Ao' Af') :
    Calls Tryz.prog 16 #[.agg #[.slice Ao D.ops.length ko, .slice Af D.frags.length kf], .agg #[.slice Ao' D.ops.length ko', .slice Af' D.frags.length kf']] w fun e w' => e = .returned (.bool true) ∧ Below w.heap.size w w' := by
  obtain ⟨hol, hfl, r10, r11⟩ := h1
  obtain ⟨_, _, r20, r21⟩ := h2
  have R10 := Lib.hid r10
  have R11 := Lib.hid r11
  have R20 := Lib.hid r20
  have R21 := Lib.hid r21
  have HB0 := Lib.hid hB
  clear r10 r11 r20 r21 hB
  have eO : ((D.ops.length : Int) != (D.ops.length : Int)) = false := by simp
  have eF : ((D.frags.length : Int) != (D.frags.length : Int)) = false := by simp
  go_enter Tryz.func16, Tryz.ntmps16
  have hW0 := Lib.hid (BK2.start w (.slice Ao D.ops.length ko) (.slice Af D.frags.length kf) (.slice Ao' D.ops.length ko') (.slice Af' D.frags.length kf') 26)
  go_wp2_with fail
  go_loopg [5] D.ops.length (fun g i wx => ∃ q : Nat, q + g = D.ops.length ∧ i = .int .i64 q ∧ BK2 w w.heap.size (w.heap.size + 1) (.slice Ao D.ops.length ko) (.slice Af D.frags.length kf) (.slice Ao' D.ops.length ko') (.slice Af' D.frags.length kf') wx)
  case atStart => exact ⟨0, by omega, rfl, hW0.out⟩
  case round =>
    clear hW0
    obtain ⟨q, hq, rfl, hb⟩ := hrel
    have HK := Lib.hid hb
    have HBB := Lib.hid hb.below
    have hx1 : w.heap.size < wr.heap.size := hb.2.1
    have hx2 : w.heap.size + 1 < wr.heap.size := hb.2.2.1
    obtain ⟨q0, q1, q2, q3⟩ := hb.cells
    clear hb
    cases gk with
    | zero =>
      obtain rfl : q = D.ops.length := by omega
      go_wp2_with fail
      go_loopg [6] D.frags.length (fun g i wx => ∃ q : Nat, q + g = D.frags.length ∧ i = .int .i64 q ∧ BK2 w w.heap.size (w.heap.size + 1) (.slice Ao D.ops.length ko) (.slice Af D.frags.length kf) (.slice Ao' D.ops.length ko') (.slice Af' D.frags.length kf') wx)
      case atStart => exact ⟨0, by omega, rfl, HK.out⟩
      case round =>
        clear q0 q1 q2 q3 hx1 hx2 HK HBB
        obtain ⟨q, hq, rfl, hb⟩ := hrel
        have HK := Lib.hid hb
        have HBB := Lib.hid hb.below
        have hx1 : w.heap.size < wr.heap.size := hb.2.1
        have hx2 : w.heap.size + 1 < wr.heap.size := hb.2.2.1
        obtain ⟨q0, q1, q2, q3⟩ := hb.cells
        clear hb
        cases gk with
        | zero =>
          obtain rfl : q = D.frags.length := by omega
          go_wp2_with fail
          go_ret
          exact ⟨rfl, HBB.out⟩
        | succ g =>
          clear q0 q1 q2 q3
          have hqn : q < D.frags.length := by omega
          have hqn' : (q : Int) < (D.frags.length : Int) := by omega
          obtain ⟨⟨a, n, ds, ss⟩, hv⟩ : ∃ x, D.frags[q]? = some x := ⟨_, List.getElem?_eq_getElem hqn⟩
          obtain ⟨b, o, Ad, kd, As, ks, rfl, hblt, ⟨g0, g1, g2, g3⟩, V1⟩ := fragm_at (RowT.below (HBB.out.mono HB0.out) R11.out) hv
          obtain ⟨b', o', Ad', kd', As', ks', rfl, hblt', ⟨f0, f1, f2, f3⟩, V2⟩ := fragm_at (RowT.below (HBB.out.mono HB0.out) R21.out) hv
          have HBX := Nat.le_trans HB0.out HBB.out.size
          have HBW : Hid (b < w.heap.size) := Lib.hid (Nat.lt_of_lt_of_le hblt HB0.out)
          have HBW' : Hid (b' < w.heap.size) := Lib.hid (Nat.lt_of_lt_of_le hblt' HB0.out)
          have hE0 : KO4 w (.slice Ao D.ops.length ko) (.slice (some ⟨b, o, none⟩) D.frags.length kf) (.slice Ao' D.ops.length ko') (.slice (some ⟨b', o', none⟩) D.frags.length kf') b (o + q * 4) (.string a) (.string n) (.slice Ad ds.length kd) (.slice As ss.len ks) b' (o' + q * 4) (.string a) (.string n) (.slice Ad' ds.length kd') (.slice As' ss.len ks') wr := ⟨⟨g0, g1, g2, g3, f0, f1, f2, f3⟩, HK.out⟩
          have C := fun (wx : World) (hx : Below wr.heap.size wr wx) => Lib.hid (sfrag_yes a n ds ss Ad Ad' As As' kd kd' ks ks' wx B (Nat.le_trans HBX hx.size) (FragAt.below (hx.mono HBX) V1) (FragAt.below (hx.mono HBX) V2))
          have hp := hE0.written
          clear V1 V2 hv hblt hblt' HBX g0 g1 g2 g3 f0 f1 f2 f3
          obtain ⟨p0, p1, g0, g1, g2, g3, f0, f1, f2, f3, _⟩ := hp
          go_wp2_with fail
          go_region_held3 (fun w' => w'.cell? ⟨w.heap.size, 1, none⟩ = some (.slice (some ⟨b, o, none⟩) D.frags.length kf) ∧ w'.cell? ⟨w.heap.size + 1, 1, none⟩ = some (.slice (some ⟨b', o', none⟩) D.frags.length kf') ∧ w'.cell? ⟨b, o + q * 4, none⟩ = some (.string a) ∧ w'.cell? ⟨b, o + q * 4 + 1, none⟩ = some (.string n) ∧ w'.cell? ⟨b, o + q * 4 + 2, none⟩ = some (.slice Ad ds.length kd) ∧ w'.cell? ⟨b, o + q * 4 + 3, none⟩ = some (.slice As ss.len ks) ∧ w'.cell? ⟨b', o' + q * 4, none⟩ = some (.string a) ∧ w'.cell? ⟨b', o' + q * 4 + 1, none⟩ = some (.string n) ∧ w'.cell? ⟨b', o' + q * 4 + 2, none⟩ = some (.slice Ad' ds.length kd') ∧ w'.cell? ⟨b', o' + q * 4 + 3, none⟩ = some (.slice As' ss.len ks') ∧ KO4 w (.slice Ao D.ops.length ko) (.slice (some ⟨b, o, none⟩) D.frags.length kf) (.slice Ao' D.ops.length ko') (.slice (some ⟨b', o', none⟩) D.frags.length kf') b (o + q * 4) (.string a) (.string n) (.slice Ad ds.length kd) (.slice As ss.len ks) b' (o' + q * 4) (.string a) (.string n) (.slice Ad' ds.length kd') (.slice As' ss.len ks') w')
            (first
              | exact KO4.written (KO4.next hE0 HBW.out HBW'.out (Below.drew (Below.refl _ _)))
              | exact KO4.written ((KO4.next hE0 HBW.out HBW'.out (Below.drew (Below.refl _ _))).next HBW.out HBW'.out (by assumption))
              | exact KO4.written (KO4.next hE0 HBW.out HBW'.out (by assumption))
              | exact KO4.written (KO4.next (by assumption) HBW.out HBW'.out (by assumption))
              | go_keep)
            ((first | (go_at_call 46; refine (C _ (by first | exact Below.drew (Below.refl _ _) | exact Below.refl _ _ | assumption)).out.mono ?_; rintro e w' ⟨rfl, hb⟩)))
          all_goals
            have HKM : KO4 w (.slice Ao D.ops.length ko) (.slice (some ⟨b, o, none⟩) D.frags.length kf) (.slice Ao' D.ops.length ko') (.slice (some ⟨b', o', none⟩) D.frags.length kf') b (o + q * 4) (.string a) (.string n) (.slice Ad ds.length kd) (.slice As ss.len ks) b' (o' + q * 4) (.string a) (.string n) (.slice Ad' ds.length kd') (.slice As' ss.len ks') w' := And.right (And.right (And.right (And.right (And.right (And.right (And.right (And.right (And.right (And.right (by assumption))))))))))
            have HKB := Lib.hid HKM.2
            clear HKM hE0 C p0 p1 g0 g1 g2 g3 f0 f1 f2 f3
            go_wp2_with fail
            go_roundg g
            case measure => omega
            case rel => exact ⟨q + 1, by omega, by go_num, HKB.out⟩
    | succ g =>
      clear q0 q1 q2 q3
      have hqn : q < D.ops.length := by omega
      have hqn' : (q : Int) < (D.ops.length : Int) := by omega
      obtain ⟨⟨k, n, vars, ds, ss⟩, hv⟩ : ∃ x, D.ops[q]? = some x := ⟨_, List.getElem?_eq_getElem hqn⟩
      obtain ⟨b, o, Av, kv, Ad, kd, As, ks, rfl, hblt, ⟨g0, g1, g2, g3, g4⟩, V1⟩ := op_at (RowT.below (HBB.out.mono HB0.out) R10.out) hv
      obtain ⟨b', o', Av', kv', Ad', kd', As', ks', rfl, hblt', ⟨f0, f1, f2, f3, f4⟩, V2⟩ := op_at (RowT.below (HBB.out.mono HB0.out) R20.out) hv
      have HBX := Nat.le_trans HB0.out HBB.out.size
      have HBW : Hid (b < w.heap.size) := Lib.hid (Nat.lt_of_lt_of_le hblt HB0.out)
      have HBW' : Hid (b' < w.heap.size) := Lib.hid (Nat.lt_of_lt_of_le hblt' HB0.out)
      have hE0 : KO5 w (.slice (some ⟨b, o, none⟩) D.ops.length ko) (.slice Af D.frags.length kf) (.slice (some ⟨b', o', none⟩) D.ops.length ko') (.slice Af' D.frags.length kf') b (o + q * 5) (.int .i64 k) (.string n) (.slice Av vars.length kv) (.slice Ad ds.length kd) (.slice As ss.len ks) b' (o' + q * 5) (.int .i64 k) (.string n) (.slice Av' vars.length kv') (.slice Ad' ds.length kd') (.slice As' ss.len ks') wr := ⟨⟨g0, g1, g2, g3, g4, f0, f1, f2, f3, f4⟩, HK.out⟩
      have C := fun (wx : World) (hx : Below wr.heap.size wr wx) => Lib.hid (sop_yes k n vars ds ss Av Av' Ad Ad' As As' kv kv' kd kd' ks ks' wx B (Nat.le_trans HBX hx.size) (OpAt.below (hx.mono HBX) V1) (OpAt.below (hx.mono HBX) V2))
      have hp := hE0.written
      clear V1 V2 hv hblt hblt' HBX g0 g1 g2 g3 g4 f0 f1 f2 f3 f4
      obtain ⟨p0, p1, g0, g1, g2, g3, g4, f0, f1, f2, f3, f4, _⟩ := hp
      go_wp2_with fail
      go_region_held3 (fun w' => w'.cell? ⟨w.heap.size, 0, none⟩ = some (.slice (some ⟨b, o, none⟩) D.ops.length ko) ∧ w'.cell? ⟨w.heap.size + 1, 0, none⟩ = some (.slice (some ⟨b', o', none⟩) D.ops.length ko') ∧ w'.cell? ⟨b, o + q * 5, none⟩ = some (.int .i64 k) ∧ w'.cell? ⟨b, o + q * 5 + 1, none⟩ = some (.string n) ∧ w'.cell? ⟨b, o + q * 5 + 2, none⟩ = some (.slice Av vars.length kv) ∧ w'.cell? ⟨b, o + q * 5 + 3, none⟩ = some (.slice Ad ds.length kd) ∧ w'.cell? ⟨b, o + q * 5 + 4, none⟩ = some (.slice As ss.len ks) ∧ w'.cell? ⟨b', o' + q * 5, none⟩ = some (.int .i64 k) ∧ w'.cell? ⟨b', o' + q * 5 + 1, none⟩ = some (.string n) ∧ w'.cell? ⟨b', o' + q * 5 + 2, none⟩ = some (.slice Av' vars.length kv') ∧ w'.cell? ⟨b', o' + q * 5 + 3, none⟩ = some (.slice Ad' ds.length kd') ∧ w'.cell? ⟨b', o' + q * 5 + 4, none⟩ = some (.slice As' ss.len ks') ∧ KO5 w (.slice (some ⟨b, o, none⟩) D.ops.length ko) (.slice Af D.frags.length kf) (.slice (some ⟨b', o', none⟩) D.ops.length ko') (.slice Af' D.frags.length kf') b (o + q * 5) (.int .i64 k) (.string n) (.slice Av vars.length kv) (.slice Ad ds.length kd) (.slice As ss.len ks) b' (o' + q * 5) (.int .i64 k) (.string n) (.slice Av' vars.length kv') (.slice Ad' ds.length kd') (.slice As' ss.len ks') w')
        (first
          | exact KO5.written (KO5.next hE0 HBW.out HBW'.out (Below.drew (Below.refl _ _)))
          | exact KO5.written ((KO5.next hE0 HBW.out HBW'.out (Below.drew (Below.refl _ _))).next HBW.out HBW'.out (by assumption))
          | exact KO5.written (KO5.next hE0 HBW.out HBW'.out (by assumption))
          | exact KO5.written (KO5.next (by assumption) HBW.out HBW'.out (by assumption))
          | go_keep)
        ((first | (go_at_call 45; refine (C _ (by first | exact Below.drew (Below.refl _ _) | exact Below.refl _ _ | assumption)).out.mono ?_; rintro e w' ⟨rfl, hb⟩)))
      all_goals
        have HKM : KO5 w (.slice (some ⟨b, o, none⟩) D.ops.length ko) (.slice Af D.frags.length kf) (.slice (some ⟨b', o', none⟩) D.ops.length ko') (.slice Af' D.frags.length kf') b (o + q * 5) (.int .i64 k) (.string n) (.slice Av vars.length kv) (.slice Ad ds.length kd) (.slice As ss.len ks) b' (o' + q * 5) (.int .i64 k) (.string n) (.slice Av' vars.length kv') (.slice Ad' ds.length kd') (.slice As' ss.len ks') w' := And.right (And.right (And.right (And.right (And.right (And.right (And.right (And.right (And.right (And.right (And.right (And.right (by assumption))))))))))))
        have HKB := Lib.hid HKM.2
        clear HKM hE0 C p0 p1 g0 g1 g2 g3 g4 f0 f1 f2 f3 f4
        go_wp2_with fail
        go_roundg g
        case measure => omega
        case rel => exact ⟨q + 1, by omega, by go_num, HKB.out⟩
end Go.Proofs.YtpkmbhnikilihaaGreatDoor
/- The tokens of two texts, one behind the other, a line's end between them. -/
namespace Go.Proofs.YtpkmbhnikilihaaGreatDoor

theorem tw_eol (q : UInt8 → Bool) (hq : q 10 = false) (r : List UInt8) : ∀ l : List UInt8, (l ++ 10 :: r).takeWhile q = l.takeWhile q
  | [] => by simp [List.takeWhile, hq]
  | b :: t => by
    rw [List.cons_append, List.takeWhile, List.takeWhile]
    cases q b with
    | true => simp only; rw [tw_eol q hq r t]
    | false => rfl
theorem pre_eol (r : List UInt8) : ∀ (p l : List UInt8), (∀ b ∈ p, b ≠ 10) → pre p (l ++ 10 :: r) = pre p l
  | [], l, _ => by simp [pre]
  | a :: p, [], h => by
    have := h a (by simp)
    show (a == 10 && p.isPrefixOf r) = false
    simp [this]
  | a :: p, b :: l, h => by
    have := pre_eol r p l (fun b hb => h b (by simp [hb]))
    unfold pre at this ⊢
    rw [List.cons_append, List.isPrefixOf, List.isPrefixOf, this]
theorem drop_eol {l : List UInt8} {k : Nat} (h : k ≤ l.length) (r : List UInt8) : (l ++ 10 :: r).drop k = l.drop k ++ 10 :: r := List.drop_append_of_le_length h
theorem take_eol {l : List UInt8} {k : Nat} (h : k ≤ l.length) (r : List UInt8) : (l ++ 10 :: r).take k = l.take k := List.take_append_of_le_length h
theorem gap_eol (r : List UInt8) {l : List UInt8} (h : l ≠ []) : gapL (l ++ 10 :: r) = gapL l := by
  cases l with
  | nil => exact absurd rfl h
  | cons b t =>
    have h1 := pre_eol r [239, 187, 191] (b :: t) (by decide)
    rw [List.cons_append] at h1 ⊢
    rw [gapL, gapL, h1, tw_eol noEol (by decide) r t]
theorem run_eol (r l : List UInt8) : runL (l ++ 10 :: r) = runL l := by unfold runL; rw [tw_eol digU (by decide) r l]
theorem frac_eol (r : List UInt8) : ∀ l, fracL (l ++ 10 :: r) = fracL l
  | [] => rfl
  | b :: t => by rw [List.cons_append, fracL, fracL, run_eol]
theorem sign_eol (r : List UInt8) : ∀ l, signL (l ++ 10 :: r) = signL l
  | [] => rfl
  | _ :: _ => rfl
theorem expo_eol (r : List UInt8) : ∀ l, expoL (l ++ 10 :: r) = expoL l
  | [] => rfl
  | b :: t => by
    rw [List.cons_append, expoL, expoL, sign_eol, drop_eol (signL_le t), run_eol]
theorem minus_eol (r : List UInt8) : ∀ l, minusL (l ++ 10 :: r) = minusL l
  | [] => rfl
  | _ :: _ => rfl
theorem whole_eol (r : List UInt8) : ∀ l, wholeL (l ++ 10 :: r) = wholeL l
  | [] => by
    show (if (10 : UInt8) == 48 then 1 else runL (10 :: r)) = 0
    rw [if_neg (by decide)]
    exact run_eol r []
  | b :: t => by
    have := run_eol r (b :: t)
    rw [List.cons_append] at this ⊢; rw [wholeL, wholeL, this]
theorem numeral_eol (r l : List UInt8) : numeralL (l ++ 10 :: r) = numeralL l := by
  have h1 := minusL_le l
  have h2 := wholeL_le (l.drop (minusL l))
  rw [List.length_drop] at h2
  have h3 := fracL_le (l.drop (minusL l + wholeL (l.drop (minusL l))))
  rw [List.length_drop] at h3
  unfold numeralL
  rw [minus_eol, drop_eol h1, whole_eol, drop_eol (by omega), frac_eol, drop_eol (by omega), expo_eol]
theorem behind_eol (r : List UInt8) : ∀ l, behindB (l ++ 10 :: r) = behindB l
  | [] => by show (digU 10 || letU 10 || (10 : UInt8) == 46) = false; decide
  | _ :: _ => rfl
theorem number_eol (r l : List UInt8) : numberL (l ++ 10 :: r) = numberL l := by
  unfold numberL
  rw [numeral_eol, drop_eol (numeralL_le l), behind_eol]
theorem word_eol (r : List UInt8) : ∀ l, wordN (l ++ 10 :: r) = wordN l
  | [] => by show (if letU 10 then 1 + (r.takeWhile nameU).length else 0) = 0; rw [if_neg (by decide)]
  | b :: t => by rw [List.cons_append, wordN, wordN, tw_eol nameU (by decide) r t]
theorem mark_eol (r : List UInt8) {l : List UInt8} (h : l ≠ []) : markN (l ++ 10 :: r) = markN l := by
  cases l with
  | nil => exact absurd rfl h
  | cons b t =>
    have h1 := pre_eol r [46, 46, 46] (b :: t) (by decide)
    rw [List.cons_append] at h1 ⊢
    rw [markN, markN, h1]
theorem unit_eol (r l : List UInt8) : unitAt (l ++ 10 :: r) = unitAt l := by
  have n10 : hexB 10 = false := by decide
  match l with
  | [] => cases r with | nil => rfl | cons _ r => match r with | [] => rfl | [_] => rfl | [_, _] => rfl | [_, _, _] => rfl | _ :: _ :: _ :: _ :: _ => simp [unitAt]
  | [a] => match r with | [] => rfl | [_] => rfl | [_, _] => rfl | [_, _, _] => rfl | _ :: _ :: _ :: _ :: _ => simp [unitAt]
  | [a, b] => match r with | [] => rfl | [_] => rfl | [_, _] => rfl | _ :: _ :: _ :: _ => simp [unitAt, n10]
  | [a, b, c] => match r with | [] => rfl | [_] => rfl | _ :: _ :: _ => simp [unitAt, n10]
  | [a, b, c, d] => match r with | [] => rfl | _ :: _ => simp [unitAt, n10]
  | [a, b, c, d, e] => simp [unitAt, n10]
  | _ :: _ :: _ :: _ :: _ :: _ :: _ => rfl
theorem hexRunF_eol (r : List UInt8) : ∀ (n : Nat) (l : List UInt8), hexRunF n (l ++ 10 :: r) = hexRunF n l
  | 0, _ => rfl
  | n + 1, l => by
    rw [hexRunF, hexRunF, unit_eol]
    cases h : unitAt l with
    | none => rfl
    | some u => simp only; rw [drop_eol (unitAt_len h), hexRunF_eol r n]
theorem hexRun_eol (r l : List UInt8) : hexRun (l ++ 10 :: r) = hexRun l := by
  unfold hexRun
  rw [hexRunF_eol, hexRunF_enough _ l.length l (by simp) (Nat.le_refl _)]
theorem esc_eol (r : List UInt8) {l : List UInt8} (h : l ≠ []) : escL (l ++ 10 :: r) = escL l := by
  unfold escL
  rw [hexRun_eol]
  split
  · match l with
    | [] => exact absurd rfl h
    | [a] => show (escB 10).map _ = none; rfl
    | _ :: _ :: _ => rfl
  · rfl
theorem lineF_eol (r : List UInt8) : ∀ (n m : Nat) (l : List UInt8) (q : List UInt8 × Nat), n ≤ m → lineF n l = some q → lineF m (l ++ 10 :: r) = some q
  | 0, _, _, _, _, h => by cases h
  | _ + 1, _, [], _, _, h => by cases h
  | n + 1, 0, _, _, hm, _ => by omega
  | n + 1, m + 1, b :: t, q, hm, h => by
    have he := esc_eol r (l := b :: t) (by simp)
    rw [List.cons_append] at he ⊢
    rw [lineF] at h ⊢
    split
    · rename_i h1; rw [if_pos h1] at h; exact h
    · rename_i h1
      rw [if_neg h1] at h
      split
      · rename_i h2; rw [if_pos h2] at h; cases h
      · rename_i h2
        rw [if_neg h2] at h
        split
        · rename_i h3
          rw [if_pos h3] at h
          rw [he]
          cases hp : escL (b :: t) with
          | none => rw [hp] at h; cases h
          | some p =>
            rw [hp] at h
            simp only at h ⊢
            have hd := drop_eol (escL_le hp).2 r
            rw [List.cons_append] at hd
            rw [hd]
            cases hx : lineF n ((b :: t).drop p.2) with
            | none => rw [hx] at h; cases h
            | some x =>
              rw [hx] at h
              rw [lineF_eol r n m _ x (by omega) hx]
              exact h
        · rename_i h3
          rw [if_neg h3] at h
          cases hx : lineF n t with
          | none => rw [hx] at h; cases h
          | some x =>
            rw [hx] at h
            rw [lineF_eol r n m _ x (by omega) hx]
            exact h
theorem rawF_eol (r : List UInt8) : ∀ (n m : Nat) (l : List UInt8) (q : List UInt8 × Nat), n ≤ m → rawF n l = some q → rawF m (l ++ 10 :: r) = some q
  | 0, _, _, _, _, h => by cases h
  | _ + 1, _, [], _, _, h => by cases h
  | n + 1, 0, _, _, hm, _ => by omega
  | n + 1, m + 1, b :: t, q, hm, h => by
    have p1 := pre_eol r [34, 34, 34] (b :: t) (by decide)
    have p2 := pre_eol r [92, 34, 34, 34] (b :: t) (by decide)
    rw [List.cons_append] at p1 p2 ⊢
    rw [rawF] at h ⊢
    rw [p1, p2]
    split
    · rename_i h1; rw [if_pos h1] at h; exact h
    · rename_i h1
      rw [if_neg h1] at h
      split
      · rename_i h2
        rw [if_pos h2] at h
        have hd := drop_eol (show 4 ≤ (b :: t).length from pre_len h2) r
        rw [List.cons_append] at hd
        rw [hd]
        cases hx : rawF n ((b :: t).drop 4) with
        | none => rw [hx] at h; cases h
        | some x =>
          rw [hx] at h
          rw [rawF_eol r n m _ x (by omega) hx]
          exact h
      · rename_i h2
        rw [if_neg h2] at h
        cases hx : rawF n t with
        | none => rw [hx] at h; cases h
        | some x =>
          rw [hx] at h
          rw [rawF_eol r n m _ x (by omega) hx]
          exact h
theorem quote_eol (r : List UInt8) {l : List UInt8} {q : List UInt8 × Nat} (h : quoteL l = some q) : quoteL (l ++ 10 :: r) = some q := by
  cases l with
  | nil => cases h
  | cons b t =>
    have p1 := pre_eol r [34, 34, 34] (b :: t) (by decide)
    rw [List.cons_append] at p1 ⊢
    rw [quoteL] at h ⊢
    rw [p1]
    split
    · rename_i h1
      rw [if_pos h1] at h
      have hd := drop_eol (show 3 ≤ (b :: t).length from pre_len h1) r
      rw [List.cons_append] at hd
      rw [hd]
      cases hx : rawL ((b :: t).drop 3) with
      | none => rw [hx] at h; cases h
      | some x =>
        rw [hx] at h
        have : rawL ((b :: t).drop 3 ++ 10 :: r) = some x := rawF_eol r _ _ _ x (by simp) hx
        rw [this]
        exact h
    · rename_i h1
      rw [if_neg h1] at h
      split
      · rename_i h2
        rw [if_pos h2] at h
        cases hx : lineL t with
        | none => rw [hx] at h; cases h
        | some x =>
          rw [hx] at h
          have : lineL (t ++ 10 :: r) = some x := lineF_eol r _ _ _ x (by simp) hx
          rw [this]
          exact h
      · rename_i h2
        rw [if_neg h2] at h
        cases h
theorem tok_eol (r : List UInt8) {l : List UInt8} {p : (Int × List UInt8) × Nat} (h : tokL l = some p) : tokL (l ++ 10 :: r) = some p := by
  have hne : l ≠ [] := fun e => by have := tokL_le h; subst e; simp at this; omega
  unfold tokL at h ⊢
  rw [mark_eol r hne, word_eol, number_eol, take_eol (markN_le l), take_eol (wordN_le l), take_eol (numberL_le l)]
  split
  · rename_i h1; rw [if_pos h1] at h; exact h
  · rename_i h1
    rw [if_neg h1] at h
    split
    · rename_i h2; rw [if_pos h2] at h; exact h
    · rename_i h2
      rw [if_neg h2] at h
      split
      · rename_i h3; rw [if_pos h3] at h; exact h
      · rename_i h3
        rw [if_neg h3] at h
        cases hq : quoteL l with
        | none => rw [hq] at h; cases h
        | some q => rw [hq] at h; rw [quote_eol r hq]; exact h
theorem readF_eol (r : List UInt8) : ∀ (n : Nat) (l : List UInt8) (ts : List (Int × List UInt8)), readF n l = some ts → readL (l ++ 10 :: r) = (readL r).map (ts ++ ·)
  | 0, _, _, h => by cases h
  | n + 1, l, ts, h => by
    by_cases hl : l = []
    · subst hl
      have : ts = [] := by
        rw [readF, if_neg (by simp [gapL]), if_pos rfl] at h
        exact (Option.some.inj h).symm
      subst this
      rw [List.nil_append, readL_gap (by simp [gapL, isGap])]
      simp [gapL, isGap]
    · rw [readF] at h
      by_cases hg : gapL l = 0
      · rw [if_neg (by simp [hg]), if_neg hl] at h
        cases ht : tokL l with
        | none => rw [ht] at h; cases h
        | some p =>
          rw [ht] at h
          simp only at h
          cases hr : readF n (l.drop p.2) with
          | none => rw [hr] at h; cases h
          | some us =>
            rw [hr] at h
            have h := Option.some.inj h
            rw [readL_tok (by rw [gap_eol r hl, hg]) (by simp) (tok_eol r ht), drop_eol (tokL_le ht).2, readF_eol r n _ us hr, ← h]
            cases readL r <;> simp
      · rw [if_pos hg] at h
        rw [readL_gap (by rw [gap_eol r hl]; exact hg), gap_eol r hl, drop_eol (gapL_le l), readF_eol r n _ ts h]
/-- Both texts' tokens, in order. -/
theorem readL_join {a b : List UInt8} {ts us : List (Int × List UInt8)} (ha : readL a = some ts) (hb : readL b = some us) : readL (a ++ 10 :: b) = some (ts ++ us) := by
  rw [readF_eol b _ a ts ha, hb]
  rfl
end Go.Proofs.YtpkmbhnikilihaaGreatDoor
