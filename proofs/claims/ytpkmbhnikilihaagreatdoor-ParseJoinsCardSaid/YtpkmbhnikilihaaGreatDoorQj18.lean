/- seineref6.SameSels over equal selections. -/
import Derived.Test.YtpkmbhnikilihaaGreatDoorQj17
namespace Go.Proofs.YtpkmbhnikilihaaGreatDoor
open Go.RowKit

def SelL.get : SelL → Nat → Option SelT
  | .nil, _ => none
  | .cons x _, 0 => some x
  | .cons _ t, q + 1 => t.get q
theorem SelL.get_lt : ∀ {l : SelL} {q : Nat}, q < l.len → ∃ x, l.get q = some x
  | .nil, _, h => by simp [SelL.len] at h
  | .cons x _, 0, _ => ⟨x, rfl⟩
  | .cons _ t, q + 1, h => SelL.get_lt (l := t) (by rw [SelL.len] at h; omega)
mutual
def szS : SelT → Nat
  | .mk _ _ _ _ _ _ s => szL s + 1
def szL : SelL → Nat
  | .nil => 1
  | .cons x t => szS x + szL t + 1
end
theorem szL_get : ∀ {l : SelL} {q : Nat} {x : SelT}, l.get q = some x → szS x < szL l
  | .nil, _, _, h => by simp [SelL.get] at h
  | .cons x t, 0, y, h => by
    obtain rfl : x = y := by simpa [SelL.get] using h
    rw [szL]; omega
  | .cons x t, q + 1, y, h => by
    have := szL_get (l := t) (q := q) (x := y) (by simpa [SelL.get] using h)
    rw [szL]; omega
theorem encS_len : ∀ x : SelT, (encS x).len = 7
  | .mk _ _ _ _ _ _ _ => by rw [encS]; rfl
theorem row_sel_at {w : World} {P : Nat → Prop} : ∀ {l : SelL} {A : Option Addr} {q : Nat} {x : SelT}, RowT w P (encSL l) A → l.get q = some x →
    ∃ b o cs, A = some ⟨b, o, none⟩ ∧ P b ∧ (∀ j u, cs[j]? = some u → w.cell? ⟨b, o + q * 7 + j, none⟩ = some u) ∧ TS w P (encS x) cs
  | .nil, _, _, _, _, h => by simp [SelL.get] at h
  | .cons a t, A, 0, x, h, hx => by
    obtain rfl : a = x := by simpa [SelL.get] using hx
    rw [encSL] at h
    unfold RowT at h
    obtain ⟨b, o, cs, e, hb, hc, h1, _⟩ := h
    exact ⟨b, o, cs, e, hb, fun j u hj => by rw [Nat.zero_mul, Nat.add_zero]; exact hc j u hj, h1⟩
  | .cons a t, A, q + 1, x, h, hx => by
    rw [encSL] at h
    unfold RowT at h
    obtain ⟨b, o, cs, e, hb, hc, h1, h2⟩ := h
    have hx : t.get q = some x := by simpa [SelL.get] using hx
    obtain ⟨b', o', cs', e', hb', hc', h1'⟩ := row_sel_at h2 hx
    have e' := Option.some.inj e'
    injection e' with e1 e2 _
    subst e1 e2
    rw [encS_len] at hc'
    exact ⟨b, o, cs', e, hb, fun j u hj => by rw [Nat.add_mul, Nat.one_mul, Nat.add_comm (q * 7) 7, ← Nat.add_assoc]; exact hc' j u hj, h1'⟩
/-- What a selection's seven cells reach. -/
def SelAt (w : World) (B : Nat) (g : VM) (d : List DirT) (s : SelL) (Ag Ad As : Option Addr) : Prop :=
  g.len ≤ 9223372036854775807 ∧ d.length ≤ 9223372036854775807 ∧ s.len ≤ 9223372036854775807 ∧ MAt w B g Ag 0 ∧ RowT w (fun b => b < B) (rowOf encD d) Ad ∧ RowT w (fun b => b < B) (encSL s) As
theorem sel_at {w : World} {B : Nat} {l : SelL} {A : Option Addr} {q : Nat} {k : Int} {a n : ByteArray} {g : VM} {d : List DirT} {o : ByteArray} {s : SelL} (h : RowT w (fun b => b < B) (encSL l) A) (hx : l.get q = some (.mk k a n g d o s)) :
    ∃ b p Ag kg Ad kd As ks, A = some ⟨b, p, none⟩ ∧ b < B ∧ (w.cell? ⟨b, p + q * 7, none⟩ = some (.int .i64 k) ∧ w.cell? ⟨b, p + q * 7 + 1, none⟩ = some (.string a) ∧ w.cell? ⟨b, p + q * 7 + 2, none⟩ = some (.string n) ∧ w.cell? ⟨b, p + q * 7 + 3, none⟩ = some (.slice Ag g.len kg) ∧ w.cell? ⟨b, p + q * 7 + 4, none⟩ = some (.slice Ad d.length kd) ∧ w.cell? ⟨b, p + q * 7 + 5, none⟩ = some (.string o) ∧ w.cell? ⟨b, p + q * 7 + 6, none⟩ = some (.slice As s.len ks)) ∧ SelAt w B g d s Ag Ad As := by
  obtain ⟨b, p, cs, e, hb, hc, h1⟩ := row_sel_at h hx
  rw [encS] at h1
  simp only [TS, TP] at h1
  obtain ⟨c0, _, rfl, ⟨rfl, _⟩, c1, _, rfl, ⟨rfl, _⟩, c2, _, rfl, ⟨rfl, _⟩, c3, _, rfl, ⟨Ag, kg, rfl, hgl, hG⟩, c4, _, rfl, ⟨Ad, kd, rfl, hdl, hD⟩, c5, _, rfl, ⟨rfl, _⟩, c6, _, rfl, ⟨As, ks, rfl, hsl, hS⟩, rfl⟩ := h1
  rw [encM_len] at hc hgl
  rw [rowOf_len] at hc hdl
  rw [encSL_len] at hc hsl
  exact ⟨b, p, Ag, kg, Ad, kd, As, ks, e, hb, ⟨hc 0 _ rfl, hc 1 _ rfl, hc 2 _ rfl, hc 3 _ rfl, hc 4 _ rfl, hc 5 _ rfl, hc 6 _ rfl⟩, hgl, hdl, hsl, mat_of hG, hD, hS⟩
theorem SelAt.below {w w' : World} {B : Nat} (hb : Below B w w') {g : VM} {d : List DirT} {s : SelL} {Ag Ad As : Option Addr} (h : SelAt w B g d s Ag Ad As) : SelAt w' B g d s Ag Ad As :=
  ⟨h.1, h.2.1, h.2.2.1, MAt.below hb _ _ _ h.2.2.2.1, RowT.below hb h.2.2.2.2.1, RowT.below hb h.2.2.2.2.2⟩
/-- Two boxes at hand. -/
def K7 (w : World) (x y : Nat) (c0 c1 c2 c3 c4 c5 c6 d0 d1 d2 d3 d4 d5 d6 : Value) (W : World) : Prop :=
  (W.cell? ⟨x, 0, none⟩ = some c0 ∧ W.cell? ⟨x, 1, none⟩ = some c1 ∧ W.cell? ⟨x, 2, none⟩ = some c2 ∧ W.cell? ⟨x, 3, none⟩ = some c3 ∧ W.cell? ⟨x, 4, none⟩ = some c4 ∧ W.cell? ⟨x, 5, none⟩ = some c5 ∧ W.cell? ⟨x, 6, none⟩ = some c6 ∧ W.cell? ⟨y, 0, none⟩ = some d0 ∧ W.cell? ⟨y, 1, none⟩ = some d1 ∧ W.cell? ⟨y, 2, none⟩ = some d2 ∧ W.cell? ⟨y, 3, none⟩ = some d3 ∧ W.cell? ⟨y, 4, none⟩ = some d4 ∧ W.cell? ⟨y, 5, none⟩ = some d5 ∧ W.cell? ⟨y, 6, none⟩ = some d6) ∧ x < W.heap.size ∧ y < W.heap.size ∧ Below w.heap.size w W
theorem K7.cells {w W : World} {x y : Nat} {c0 c1 c2 c3 c4 c5 c6 d0 d1 d2 d3 d4 d5 d6 : Value} (h : K7 w x y c0 c1 c2 c3 c4 c5 c6 d0 d1 d2 d3 d4 d5 d6 W) : W.cell? ⟨x, 0, none⟩ = some c0 ∧ W.cell? ⟨x, 1, none⟩ = some c1 ∧ W.cell? ⟨x, 2, none⟩ = some c2 ∧ W.cell? ⟨x, 3, none⟩ = some c3 ∧ W.cell? ⟨x, 4, none⟩ = some c4 ∧ W.cell? ⟨x, 5, none⟩ = some c5 ∧ W.cell? ⟨x, 6, none⟩ = some c6 ∧ W.cell? ⟨y, 0, none⟩ = some d0 ∧ W.cell? ⟨y, 1, none⟩ = some d1 ∧ W.cell? ⟨y, 2, none⟩ = some d2 ∧ W.cell? ⟨y, 3, none⟩ = some d3 ∧ W.cell? ⟨y, 4, none⟩ = some d4 ∧ W.cell? ⟨y, 5, none⟩ = some d5 ∧ W.cell? ⟨y, 6, none⟩ = some d6 := h.1
theorem K7.below {w W : World} {x y : Nat} {c0 c1 c2 c3 c4 c5 c6 d0 d1 d2 d3 d4 d5 d6 : Value} (h : K7 w x y c0 c1 c2 c3 c4 c5 c6 d0 d1 d2 d3 d4 d5 d6 W) : Below w.heap.size w W := h.2.2.2
theorem K7.next {w W W' : World} {x y : Nat} {c0 c1 c2 c3 c4 c5 c6 d0 d1 d2 d3 d4 d5 d6 : Value} (h : K7 w x y c0 c1 c2 c3 c4 c5 c6 d0 d1 d2 d3 d4 d5 d6 W) (hb : Below W.heap.size W W') : K7 w x y c0 c1 c2 c3 c4 c5 c6 d0 d1 d2 d3 d4 d5 d6 W' := by
  obtain ⟨⟨g0, g1, g2, g3, g4, g5, g6, f0, f1, f2, f3, f4, f5, f6⟩, hx, hy, hB⟩ := h
  exact ⟨⟨(hb.cell (p := ⟨x, _, none⟩) hx).trans g0, (hb.cell (p := ⟨x, _, none⟩) hx).trans g1, (hb.cell (p := ⟨x, _, none⟩) hx).trans g2, (hb.cell (p := ⟨x, _, none⟩) hx).trans g3, (hb.cell (p := ⟨x, _, none⟩) hx).trans g4, (hb.cell (p := ⟨x, _, none⟩) hx).trans g5, (hb.cell (p := ⟨x, _, none⟩) hx).trans g6, (hb.cell (p := ⟨y, _, none⟩) hy).trans f0, (hb.cell (p := ⟨y, _, none⟩) hy).trans f1, (hb.cell (p := ⟨y, _, none⟩) hy).trans f2, (hb.cell (p := ⟨y, _, none⟩) hy).trans f3, (hb.cell (p := ⟨y, _, none⟩) hy).trans f4, (hb.cell (p := ⟨y, _, none⟩) hy).trans f5, (hb.cell (p := ⟨y, _, none⟩) hy).trans f6⟩, Nat.lt_of_lt_of_le hx hb.size, Nat.lt_of_lt_of_le hy hb.size, hB.trans (hb.mono hB.size)⟩
theorem K7.start (w : World) (c0 c1 c2 c3 c4 c5 c6 d0 d1 d2 d3 d4 d5 d6 : Value) (t : TypeId) : K7 w (w.heap.size) (w.heap.size + 1) c0 c1 c2 c3 c4 c5 c6 d0 d1 d2 d3 d4 d5 d6 ((w.alloc (.cells #[c0, c1, c2, c3, c4, c5, c6] t)).alloc (.cells #[d0, d1, d2, d3, d4, d5, d6] t)).drew := by
  have k0 : ((w.alloc (.cells #[c0, c1, c2, c3, c4, c5, c6] t)).alloc (.cells #[d0, d1, d2, d3, d4, d5, d6] t)).drew.heap[w.heap.size]? = some (.cells #[c0, c1, c2, c3, c4, c5, c6] t) := by
    show ((w.alloc (.cells #[c0, c1, c2, c3, c4, c5, c6] t)).alloc (.cells #[d0, d1, d2, d3, d4, d5, d6] t)).heap[w.heap.size]? = _
    rw [Below.heap_alloc _ _ _ (by simp)]
    show (w.heap.push _)[w.heap.size]? = _; simp
  have k1 : ((w.alloc (.cells #[c0, c1, c2, c3, c4, c5, c6] t)).alloc (.cells #[d0, d1, d2, d3, d4, d5, d6] t)).drew.heap[w.heap.size + 1]? = some (.cells #[d0, d1, d2, d3, d4, d5, d6] t) := by
    show ((w.heap.push _).push _)[w.heap.size + 1]? = _
    rw [Array.getElem?_push, if_pos (by simp)]
  refine ⟨⟨?_, ?_, ?_, ?_, ?_, ?_, ?_, ?_, ?_, ?_, ?_, ?_, ?_, ?_⟩, ?_, ?_, Below.drew (((Below.refl _ _).alloc (Nat.le_refl _) _).alloc (by simp) _)⟩
  all_goals first | (simp only [World.cell?]; first | (rw [k0]; rfl) | (rw [k1]; rfl)) | (show _ < ((w.heap.push _).push _).size; simp; done) | (show _ < ((w.heap.push _).push _).size; simp; omega)
theorem K7.start2 (w : World) (c0 c1 c2 c3 c4 c5 c6 d0 d1 d2 d3 d4 d5 d6 : Value) (t : TypeId) : K7 w (w.heap.size + 1) (w.heap.size) c0 c1 c2 c3 c4 c5 c6 d0 d1 d2 d3 d4 d5 d6 ((w.alloc (.cells #[d0, d1, d2, d3, d4, d5, d6] t)).alloc (.cells #[c0, c1, c2, c3, c4, c5, c6] t)).drew := by
  have k0 : ((w.alloc (.cells #[d0, d1, d2, d3, d4, d5, d6] t)).alloc (.cells #[c0, c1, c2, c3, c4, c5, c6] t)).drew.heap[w.heap.size]? = some (.cells #[d0, d1, d2, d3, d4, d5, d6] t) := by
    show ((w.alloc (.cells #[d0, d1, d2, d3, d4, d5, d6] t)).alloc (.cells #[c0, c1, c2, c3, c4, c5, c6] t)).heap[w.heap.size]? = _
    rw [Below.heap_alloc _ _ _ (by simp)]
    show (w.heap.push _)[w.heap.size]? = _; simp
  have k1 : ((w.alloc (.cells #[d0, d1, d2, d3, d4, d5, d6] t)).alloc (.cells #[c0, c1, c2, c3, c4, c5, c6] t)).drew.heap[w.heap.size + 1]? = some (.cells #[c0, c1, c2, c3, c4, c5, c6] t) := by
    show ((w.heap.push _).push _)[w.heap.size + 1]? = _
    rw [Array.getElem?_push, if_pos (by simp)]
  refine ⟨⟨?_, ?_, ?_, ?_, ?_, ?_, ?_, ?_, ?_, ?_, ?_, ?_, ?_, ?_⟩, ?_, ?_, Below.drew (((Below.refl _ _).alloc (Nat.le_refl _) _).alloc (by simp) _)⟩
  all_goals first | (simp only [World.cell?]; first | (rw [k0]; rfl) | (rw [k1]; rfl)) | (show _ < ((w.heap.push _).push _).size; simp; done) | (show _ < ((w.heap.push _).push _).size; simp; omega)
def SelC (l : SelL) : Prop := ∀ (A A' : Option Addr) (c c' : Nat) (w : World) (B : Nat), B ≤ w.heap.size → l.len ≤ 9223372036854775807 → RowT w (fun b => b < B) (encSL l) A → RowT w (fun b => b < B) (encSL l) A' →
  Calls Tryz.prog 113 #[.slice A l.len c, .slice A' l.len c'] w fun e w' => e = .returned (.bool true) ∧ Below w.heap.size w w'

set_option maxRecDepth 100000 in
set_option maxHeartbeats 4000000 in
theorem sels_step (N : Nat) (H : ∀ l, szL l ≤ N → SelC l) : ∀ l, szL l ≤ N + 1 → SelC l := by
  intro l hN A A' c c' w B hB hl h1 h2
  have H1 := Lib.hid h1
  have H2 := Lib.hid h2
  have HS := Lib.hid H
  have HB0 := Lib.hid hB
  clear h1 h2 hB H
  have e0 : ((l.len : Int) != (l.len : Int)) = false := by simp
  go_enter Tryz.func113, Tryz.ntmps113
  go_wp2_with fail
  go_loopg [5] l.len (fun g i wx => ∃ q : Nat, q + g = l.len ∧ i = .int .i64 q ∧ Below w.heap.size w wx)
  case atStart => exact ⟨0, by omega, rfl, Below.refl _ _⟩
  case round =>
    obtain ⟨q, hq, rfl, hb⟩ := hrel
    have HBB := Lib.hid hb
    clear hb
    cases gk with
    | zero =>
      obtain rfl : q = l.len := by omega
      go_wp2_with fail
      go_ret
      exact ⟨rfl, HBB.out⟩
    | succ g =>
      have hqn : q < l.len := by omega
      have hqn' : (q : Int) < (l.len : Int) := by omega
      obtain ⟨⟨k, a, n, gs, ds, on, ss⟩, hv⟩ := SelL.get_lt hqn
      have hsz := szL_get hv
      rw [szS] at hsz
      obtain ⟨b, o, Ag, kg, Ad, kd, As, ks, rfl, hblt, ⟨g0, g1, g2, g3, g4, g5, g6⟩, S1⟩ := sel_at (RowT.below (HBB.out.mono HB0.out) H1.out) hv
      obtain ⟨b', o', Ag', kg', Ad', kd', As', ks', rfl, hblt', ⟨f0, f1, f2, f3, f4, f5, f6⟩, S2⟩ := sel_at (RowT.below (HBB.out.mono HB0.out) H2.out) hv
      have S1 := Lib.hid S1
      have S2 := Lib.hid S2
      have HBX := Lib.hid (Nat.le_trans HB0.out HBB.out.size)
      have eK : (k != k) = false := by simp
      have eA : (a.toList != a.toList) = false := by simp
      have eN : (n.toList != n.toList) = false := by simp
      have eO : (on.toList != on.toList) = false := by simp
      have hw1 : b < wr.heap.size := Nat.lt_of_lt_of_le hblt (Nat.le_trans HB0.out HBB.out.size)
      have hw2 : b' < wr.heap.size := Nat.lt_of_lt_of_le hblt' (Nat.le_trans HB0.out HBB.out.size)
      clear hv hblt hblt'
      go_wp2_with fail
      go_region
      · have hW0 := Lib.hid (K7.start wr (.int .i64 k) (.string a) (.string n) (.slice Ag gs.len kg) (.slice Ad ds.length kd) (.string on) (.slice As ss.len ks) (.int .i64 k) (.string a) (.string n) (.slice Ag' gs.len kg') (.slice Ad' ds.length kd') (.string on) (.slice As' ss.len ks') 72)
        generalize ((wr.alloc (.cells #[.int .i64 k, .string a, .string n, .slice Ag gs.len kg, .slice Ad ds.length kd, .string on, .slice As ss.len ks] 72)).alloc (.cells #[.int .i64 k, .string a, .string n, .slice Ag' gs.len kg', .slice Ad' ds.length kd', .string on, .slice As' ss.len ks'] 72)).drew = W at hW0 ⊢
        have hc0 := hW0.out.cells
        obtain ⟨g0, g1, g2, g3, g4, g5, g6, f0, f1, f2, f3, f4, f5, f6⟩ := hc0
        have hB1 := hW0.out.below
        go_wp2_with fail
        refine (memb_yes gs Ag Ag' kg kg' _ B (Nat.le_trans HB0.out (Nat.le_trans HBB.out.size hB1.size)) S1.out.1 (SelAt.below (hB1.mono HBX.out) S1.out).2.2.2.1 (SelAt.below (hB1.mono HBX.out) S2.out).2.2.2.1).mono ?_
        rintro e w2 ⟨rfl, hb2⟩
        have hW2 := Lib.hid (K7.next hW0.out hb2)
        clear g0 g1 g2 g3 g4 g5 g6 f0 f1 f2 f3 f4 f5 f6 hW0 hB1 hb2
        have hc0 := hW2.out.cells
        obtain ⟨g0, g1, g2, g3, g4, g5, g6, f0, f1, f2, f3, f4, f5, f6⟩ := hc0
        have hB1 := hW2.out.below
        go_wp2_with fail
        refine (dirs_yes ds Ad Ad' kd kd' _ B (Nat.le_trans HB0.out (Nat.le_trans HBB.out.size hB1.size)) S1.out.2.1 (SelAt.below (hB1.mono HBX.out) S1.out).2.2.2.2.1 (SelAt.below (hB1.mono HBX.out) S2.out).2.2.2.2.1).mono ?_
        rintro e w3 ⟨rfl, hb3⟩
        have hW3 := Lib.hid (K7.next hW2.out hb3)
        clear g0 g1 g2 g3 g4 g5 g6 f0 f1 f2 f3 f4 f5 f6 hW2 hB1 hb3
        have hc0 := hW3.out.cells
        obtain ⟨g0, g1, g2, g3, g4, g5, g6, f0, f1, f2, f3, f4, f5, f6⟩ := hc0
        have hB1 := hW3.out.below
        go_wp2_with fail
        refine (HS.out ss (by omega) As As' ks ks' _ B (Nat.le_trans HB0.out (Nat.le_trans HBB.out.size hB1.size)) S1.out.2.2.1 (SelAt.below (hB1.mono HBX.out) S1.out).2.2.2.2.2 (SelAt.below (hB1.mono HBX.out) S2.out).2.2.2.2.2).mono ?_
        rintro e w4 ⟨rfl, hb4⟩
        have hW4 := Lib.hid (K7.next hW3.out hb4).below
        clear g0 g1 g2 g3 g4 g5 g6 f0 f1 f2 f3 f4 f5 f6 hW3 hB1 hb4
        go_wp2_with fail
        go_roundg g
        case measure => omega
        case rel => exact ⟨q + 1, by omega, by go_num, HBB.out.trans (hW4.out.mono HBB.out.size)⟩
      · have hW0 := Lib.hid (K7.start2 wr (.int .i64 k) (.string a) (.string n) (.slice Ag gs.len kg) (.slice Ad ds.length kd) (.string on) (.slice As ss.len ks) (.int .i64 k) (.string a) (.string n) (.slice Ag' gs.len kg') (.slice Ad' ds.length kd') (.string on) (.slice As' ss.len ks') 72)
        generalize ((wr.alloc (.cells #[.int .i64 k, .string a, .string n, .slice Ag' gs.len kg', .slice Ad' ds.length kd', .string on, .slice As' ss.len ks'] 72)).alloc (.cells #[.int .i64 k, .string a, .string n, .slice Ag gs.len kg, .slice Ad ds.length kd, .string on, .slice As ss.len ks] 72)).drew = W at hW0 ⊢
        have hc0 := hW0.out.cells
        obtain ⟨g0, g1, g2, g3, g4, g5, g6, f0, f1, f2, f3, f4, f5, f6⟩ := hc0
        have hB1 := hW0.out.below
        go_wp2_with fail
        refine (memb_yes gs Ag Ag' kg kg' _ B (Nat.le_trans HB0.out (Nat.le_trans HBB.out.size hB1.size)) S1.out.1 (SelAt.below (hB1.mono HBX.out) S1.out).2.2.2.1 (SelAt.below (hB1.mono HBX.out) S2.out).2.2.2.1).mono ?_
        rintro e w2 ⟨rfl, hb2⟩
        have hW2 := Lib.hid (K7.next hW0.out hb2)
        clear g0 g1 g2 g3 g4 g5 g6 f0 f1 f2 f3 f4 f5 f6 hW0 hB1 hb2
        have hc0 := hW2.out.cells
        obtain ⟨g0, g1, g2, g3, g4, g5, g6, f0, f1, f2, f3, f4, f5, f6⟩ := hc0
        have hB1 := hW2.out.below
        go_wp2_with fail
        refine (dirs_yes ds Ad Ad' kd kd' _ B (Nat.le_trans HB0.out (Nat.le_trans HBB.out.size hB1.size)) S1.out.2.1 (SelAt.below (hB1.mono HBX.out) S1.out).2.2.2.2.1 (SelAt.below (hB1.mono HBX.out) S2.out).2.2.2.2.1).mono ?_
        rintro e w3 ⟨rfl, hb3⟩
        have hW3 := Lib.hid (K7.next hW2.out hb3)
        clear g0 g1 g2 g3 g4 g5 g6 f0 f1 f2 f3 f4 f5 f6 hW2 hB1 hb3
        have hc0 := hW3.out.cells
        obtain ⟨g0, g1, g2, g3, g4, g5, g6, f0, f1, f2, f3, f4, f5, f6⟩ := hc0
        have hB1 := hW3.out.below
        go_wp2_with fail
        refine (HS.out ss (by omega) As As' ks ks' _ B (Nat.le_trans HB0.out (Nat.le_trans HBB.out.size hB1.size)) S1.out.2.2.1 (SelAt.below (hB1.mono HBX.out) S1.out).2.2.2.2.2 (SelAt.below (hB1.mono HBX.out) S2.out).2.2.2.2.2).mono ?_
        rintro e w4 ⟨rfl, hb4⟩
        have hW4 := Lib.hid (K7.next hW3.out hb4).below
        clear g0 g1 g2 g3 g4 g5 g6 f0 f1 f2 f3 f4 f5 f6 hW3 hB1 hb4
        go_wp2_with fail
        go_roundg g
        case measure => omega
        case rel => exact ⟨q + 1, by omega, by go_num, HBB.out.trans (hW4.out.mono HBB.out.size)⟩
theorem ssels_all : ∀ N l, szL l ≤ N → SelC l
  | 0, l, h => by cases l <;> (rw [szL] at h; omega)
  | N + 1, l, h => sels_step N (ssels_all N) l h
theorem sels_yes (l : SelL) : SelC l := ssels_all _ l (Nat.le_refl _)
end Go.Proofs.YtpkmbhnikilihaaGreatDoor
/- seineref6.SameFrag over equal trees. -/
namespace Go.Proofs.YtpkmbhnikilihaaGreatDoor
open Go.RowKit

def BK4 (w : World) (x y : Nat) (c0 c1 c2 c3 d0 d1 d2 d3 : Value) (W : World) : Prop :=
  (W.cell? ⟨x, 0, none⟩ = some c0 ∧ W.cell? ⟨x, 1, none⟩ = some c1 ∧ W.cell? ⟨x, 2, none⟩ = some c2 ∧ W.cell? ⟨x, 3, none⟩ = some c3 ∧ W.cell? ⟨y, 0, none⟩ = some d0 ∧ W.cell? ⟨y, 1, none⟩ = some d1 ∧ W.cell? ⟨y, 2, none⟩ = some d2 ∧ W.cell? ⟨y, 3, none⟩ = some d3) ∧ x < W.heap.size ∧ y < W.heap.size ∧ Below w.heap.size w W
theorem BK4.cells {w W : World} {x y : Nat} {c0 c1 c2 c3 d0 d1 d2 d3 : Value} (h : BK4 w x y c0 c1 c2 c3 d0 d1 d2 d3 W) : W.cell? ⟨x, 0, none⟩ = some c0 ∧ W.cell? ⟨x, 1, none⟩ = some c1 ∧ W.cell? ⟨x, 2, none⟩ = some c2 ∧ W.cell? ⟨x, 3, none⟩ = some c3 ∧ W.cell? ⟨y, 0, none⟩ = some d0 ∧ W.cell? ⟨y, 1, none⟩ = some d1 ∧ W.cell? ⟨y, 2, none⟩ = some d2 ∧ W.cell? ⟨y, 3, none⟩ = some d3 := h.1
theorem BK4.below {w W : World} {x y : Nat} {c0 c1 c2 c3 d0 d1 d2 d3 : Value} (h : BK4 w x y c0 c1 c2 c3 d0 d1 d2 d3 W) : Below w.heap.size w W := h.2.2.2
theorem BK4.next {w W W' : World} {x y : Nat} {c0 c1 c2 c3 d0 d1 d2 d3 : Value} (h : BK4 w x y c0 c1 c2 c3 d0 d1 d2 d3 W) (hb : Below W.heap.size W W') : BK4 w x y c0 c1 c2 c3 d0 d1 d2 d3 W' := by
  obtain ⟨⟨g0, g1, g2, g3, f0, f1, f2, f3⟩, hx, hy, hB⟩ := h
  exact ⟨⟨(hb.cell (p := ⟨x, _, none⟩) hx).trans g0, (hb.cell (p := ⟨x, _, none⟩) hx).trans g1, (hb.cell (p := ⟨x, _, none⟩) hx).trans g2, (hb.cell (p := ⟨x, _, none⟩) hx).trans g3, (hb.cell (p := ⟨y, _, none⟩) hy).trans f0, (hb.cell (p := ⟨y, _, none⟩) hy).trans f1, (hb.cell (p := ⟨y, _, none⟩) hy).trans f2, (hb.cell (p := ⟨y, _, none⟩) hy).trans f3⟩, Nat.lt_of_lt_of_le hx hb.size, Nat.lt_of_lt_of_le hy hb.size, hB.trans (hb.mono hB.size)⟩
theorem BK4.start (w : World) (c0 c1 c2 c3 d0 d1 d2 d3 : Value) (t : TypeId) : BK4 w (w.heap.size) (w.heap.size + 1) c0 c1 c2 c3 d0 d1 d2 d3 ((w.alloc (.cells #[c0, c1, c2, c3] t)).alloc (.cells #[d0, d1, d2, d3] t)) := by
  have k0 : ((w.alloc (.cells #[c0, c1, c2, c3] t)).alloc (.cells #[d0, d1, d2, d3] t)).heap[w.heap.size]? = some (.cells #[c0, c1, c2, c3] t) := by
    show ((w.alloc (.cells #[c0, c1, c2, c3] t)).alloc (.cells #[d0, d1, d2, d3] t)).heap[w.heap.size]? = _
    rw [Below.heap_alloc _ _ _ (by simp)]
    show (w.heap.push _)[w.heap.size]? = _; simp
  have k1 : ((w.alloc (.cells #[c0, c1, c2, c3] t)).alloc (.cells #[d0, d1, d2, d3] t)).heap[w.heap.size + 1]? = some (.cells #[d0, d1, d2, d3] t) := by
    show ((w.heap.push _).push _)[w.heap.size + 1]? = _
    rw [Array.getElem?_push, if_pos (by simp)]
  refine ⟨⟨?_, ?_, ?_, ?_, ?_, ?_, ?_, ?_⟩, ?_, ?_, ((Below.refl _ _).alloc (Nat.le_refl _) _).alloc (by simp) _⟩
  all_goals first | (simp only [World.cell?]; first | (rw [k0]; rfl) | (rw [k1]; rfl)) | (show _ < ((w.heap.push _).push _).size; simp; done) | (show _ < ((w.heap.push _).push _).size; simp; omega)
def FragAt (w : World) (B : Nat) (d : List DirT) (s : SelL) (Ad As : Option Addr) : Prop :=
  d.length ≤ 9223372036854775807 ∧ s.len ≤ 9223372036854775807 ∧ RowT w (fun b => b < B) (rowOf encD d) Ad ∧ RowT w (fun b => b < B) (encSL s) As
theorem FragAt.below {w w' : World} {B : Nat} (hb : Below B w w') {d : List DirT} {s : SelL} {Ad As : Option Addr} (h : FragAt w B d s Ad As) : FragAt w' B d s Ad As :=
  ⟨h.1, h.2.1, RowT.below hb h.2.2.1, RowT.below hb h.2.2.2⟩

set_option maxRecDepth 100000 in
set_option maxHeartbeats 4000000 in
theorem sfrag_yes (a n : ByteArray) (ds : List DirT) (ss : SelL) (Ad Ad' As As' : Option Addr) (kd kd' ks ks' : Nat) (w : World) (B : Nat) (hB : B ≤ w.heap.size) (h1 : FragAt w B ds ss Ad As) (h2 : FragAt w B ds ss Ad' As') :
    Calls Tryz.prog 46 #[.agg #[.string a, .string n, .slice Ad ds.length kd, .slice As ss.len ks], .agg #[.string a, .string n, .slice Ad' ds.length kd', .slice As' ss.len ks']] w fun e w' => e = .returned (.bool true) ∧ Below w.heap.size w w' := by
  have S1 := Lib.hid h1
  have S2 := Lib.hid h2
  have HB0 := Lib.hid hB
  clear h1 h2 hB
  have eA : (a.toList == a.toList) = true := by simp
  have eN : (n.toList == n.toList) = true := by simp
  go_enter Tryz.func46, Tryz.ntmps46
  have hW0 := Lib.hid (BK4.start w (.string a) (.string n) (.slice Ad ds.length kd) (.slice As ss.len ks) (.string a) (.string n) (.slice Ad' ds.length kd') (.slice As' ss.len ks') 87)
  go_wp2_with fail
  have hB1 := hW0.out.below
  refine (dirs_yes ds Ad Ad' kd kd' _ B (Nat.le_trans HB0.out hB1.size) S1.out.1 (FragAt.below (hB1.mono HB0.out) S1.out).2.2.1 (FragAt.below (hB1.mono HB0.out) S2.out).2.2.1).mono ?_
  rintro e w3 ⟨rfl, hb3⟩
  have hW3 := Lib.hid (BK4.next hW0.out hb3)
  clear hW0 hB1 hb3
  have hc0 := hW3.out.cells
  obtain ⟨g0, g1, g2, g3, f0, f1, f2, f3⟩ := hc0
  have hB1 := hW3.out.below
  go_wp2_with fail
  refine (sels_yes ss As As' ks ks' _ B (Nat.le_trans HB0.out hB1.size) S1.out.2.1 (FragAt.below (hB1.mono HB0.out) S1.out).2.2.2 (FragAt.below (hB1.mono HB0.out) S2.out).2.2.2).mono ?_
  rintro e w4 ⟨rfl, hb4⟩
  have hW4 := Lib.hid (BK4.next hW3.out hb4).below
  clear g0 g1 g2 g3 f0 f1 f2 f3 hW3 hB1 hb4
  go_wp2_with fail
  go_ret
  exact ⟨rfl, hW4.out⟩
end Go.Proofs.YtpkmbhnikilihaaGreatDoor
/- seineref6.SameOp over equal trees. -/
namespace Go.Proofs.YtpkmbhnikilihaaGreatDoor
open Go.RowKit

def BK5 (w : World) (x y : Nat) (c0 c1 c2 c3 c4 d0 d1 d2 d3 d4 : Value) (W : World) : Prop :=
  (W.cell? ⟨x, 0, none⟩ = some c0 ∧ W.cell? ⟨x, 1, none⟩ = some c1 ∧ W.cell? ⟨x, 2, none⟩ = some c2 ∧ W.cell? ⟨x, 3, none⟩ = some c3 ∧ W.cell? ⟨x, 4, none⟩ = some c4 ∧ W.cell? ⟨y, 0, none⟩ = some d0 ∧ W.cell? ⟨y, 1, none⟩ = some d1 ∧ W.cell? ⟨y, 2, none⟩ = some d2 ∧ W.cell? ⟨y, 3, none⟩ = some d3 ∧ W.cell? ⟨y, 4, none⟩ = some d4) ∧ x < W.heap.size ∧ y < W.heap.size ∧ Below w.heap.size w W
theorem BK5.cells {w W : World} {x y : Nat} {c0 c1 c2 c3 c4 d0 d1 d2 d3 d4 : Value} (h : BK5 w x y c0 c1 c2 c3 c4 d0 d1 d2 d3 d4 W) : W.cell? ⟨x, 0, none⟩ = some c0 ∧ W.cell? ⟨x, 1, none⟩ = some c1 ∧ W.cell? ⟨x, 2, none⟩ = some c2 ∧ W.cell? ⟨x, 3, none⟩ = some c3 ∧ W.cell? ⟨x, 4, none⟩ = some c4 ∧ W.cell? ⟨y, 0, none⟩ = some d0 ∧ W.cell? ⟨y, 1, none⟩ = some d1 ∧ W.cell? ⟨y, 2, none⟩ = some d2 ∧ W.cell? ⟨y, 3, none⟩ = some d3 ∧ W.cell? ⟨y, 4, none⟩ = some d4 := h.1
theorem BK5.below {w W : World} {x y : Nat} {c0 c1 c2 c3 c4 d0 d1 d2 d3 d4 : Value} (h : BK5 w x y c0 c1 c2 c3 c4 d0 d1 d2 d3 d4 W) : Below w.heap.size w W := h.2.2.2
theorem BK5.next {w W W' : World} {x y : Nat} {c0 c1 c2 c3 c4 d0 d1 d2 d3 d4 : Value} (h : BK5 w x y c0 c1 c2 c3 c4 d0 d1 d2 d3 d4 W) (hb : Below W.heap.size W W') : BK5 w x y c0 c1 c2 c3 c4 d0 d1 d2 d3 d4 W' := by
  obtain ⟨⟨g0, g1, g2, g3, g4, f0, f1, f2, f3, f4⟩, hx, hy, hB⟩ := h
  exact ⟨⟨(hb.cell (p := ⟨x, _, none⟩) hx).trans g0, (hb.cell (p := ⟨x, _, none⟩) hx).trans g1, (hb.cell (p := ⟨x, _, none⟩) hx).trans g2, (hb.cell (p := ⟨x, _, none⟩) hx).trans g3, (hb.cell (p := ⟨x, _, none⟩) hx).trans g4, (hb.cell (p := ⟨y, _, none⟩) hy).trans f0, (hb.cell (p := ⟨y, _, none⟩) hy).trans f1, (hb.cell (p := ⟨y, _, none⟩) hy).trans f2, (hb.cell (p := ⟨y, _, none⟩) hy).trans f3, (hb.cell (p := ⟨y, _, none⟩) hy).trans f4⟩, Nat.lt_of_lt_of_le hx hb.size, Nat.lt_of_lt_of_le hy hb.size, hB.trans (hb.mono hB.size)⟩
theorem BK5.start (w : World) (c0 c1 c2 c3 c4 d0 d1 d2 d3 d4 : Value) (t : TypeId) : BK5 w (w.heap.size) (w.heap.size + 1) c0 c1 c2 c3 c4 d0 d1 d2 d3 d4 ((w.alloc (.cells #[c0, c1, c2, c3, c4] t)).alloc (.cells #[d0, d1, d2, d3, d4] t)) := by
  have k0 : ((w.alloc (.cells #[c0, c1, c2, c3, c4] t)).alloc (.cells #[d0, d1, d2, d3, d4] t)).heap[w.heap.size]? = some (.cells #[c0, c1, c2, c3, c4] t) := by
    show ((w.alloc (.cells #[c0, c1, c2, c3, c4] t)).alloc (.cells #[d0, d1, d2, d3, d4] t)).heap[w.heap.size]? = _
    rw [Below.heap_alloc _ _ _ (by simp)]
    show (w.heap.push _)[w.heap.size]? = _; simp
  have k1 : ((w.alloc (.cells #[c0, c1, c2, c3, c4] t)).alloc (.cells #[d0, d1, d2, d3, d4] t)).heap[w.heap.size + 1]? = some (.cells #[d0, d1, d2, d3, d4] t) := by
    show ((w.heap.push _).push _)[w.heap.size + 1]? = _
    rw [Array.getElem?_push, if_pos (by simp)]
  refine ⟨⟨?_, ?_, ?_, ?_, ?_, ?_, ?_, ?_, ?_, ?_⟩, ?_, ?_, ((Below.refl _ _).alloc (Nat.le_refl _) _).alloc (by simp) _⟩
  all_goals first | (simp only [World.cell?]; first | (rw [k0]; rfl) | (rw [k1]; rfl)) | (show _ < ((w.heap.push _).push _).size; simp; done) | (show _ < ((w.heap.push _).push _).size; simp; omega)
def BK10 (w : World) (x y : Nat) (c0 c1 c2 c3 c4 c5 c6 c7 c8 c9 d0 d1 d2 d3 d4 d5 d6 d7 d8 d9 : Value) (W : World) : Prop :=
  (W.cell? ⟨x, 0, none⟩ = some c0 ∧ W.cell? ⟨x, 1, none⟩ = some c1 ∧ W.cell? ⟨x, 2, none⟩ = some c2 ∧ W.cell? ⟨x, 3, none⟩ = some c3 ∧ W.cell? ⟨x, 4, none⟩ = some c4 ∧ W.cell? ⟨x, 5, none⟩ = some c5 ∧ W.cell? ⟨x, 6, none⟩ = some c6 ∧ W.cell? ⟨x, 7, none⟩ = some c7 ∧ W.cell? ⟨x, 8, none⟩ = some c8 ∧ W.cell? ⟨x, 9, none⟩ = some c9 ∧ W.cell? ⟨y, 0, none⟩ = some d0 ∧ W.cell? ⟨y, 1, none⟩ = some d1 ∧ W.cell? ⟨y, 2, none⟩ = some d2 ∧ W.cell? ⟨y, 3, none⟩ = some d3 ∧ W.cell? ⟨y, 4, none⟩ = some d4 ∧ W.cell? ⟨y, 5, none⟩ = some d5 ∧ W.cell? ⟨y, 6, none⟩ = some d6 ∧ W.cell? ⟨y, 7, none⟩ = some d7 ∧ W.cell? ⟨y, 8, none⟩ = some d8 ∧ W.cell? ⟨y, 9, none⟩ = some d9) ∧ x < W.heap.size ∧ y < W.heap.size ∧ Below w.heap.size w W
theorem BK10.cells {w W : World} {x y : Nat} {c0 c1 c2 c3 c4 c5 c6 c7 c8 c9 d0 d1 d2 d3 d4 d5 d6 d7 d8 d9 : Value} (h : BK10 w x y c0 c1 c2 c3 c4 c5 c6 c7 c8 c9 d0 d1 d2 d3 d4 d5 d6 d7 d8 d9 W) : W.cell? ⟨x, 0, none⟩ = some c0 ∧ W.cell? ⟨x, 1, none⟩ = some c1 ∧ W.cell? ⟨x, 2, none⟩ = some c2 ∧ W.cell? ⟨x, 3, none⟩ = some c3 ∧ W.cell? ⟨x, 4, none⟩ = some c4 ∧ W.cell? ⟨x, 5, none⟩ = some c5 ∧ W.cell? ⟨x, 6, none⟩ = some c6 ∧ W.cell? ⟨x, 7, none⟩ = some c7 ∧ W.cell? ⟨x, 8, none⟩ = some c8 ∧ W.cell? ⟨x, 9, none⟩ = some c9 ∧ W.cell? ⟨y, 0, none⟩ = some d0 ∧ W.cell? ⟨y, 1, none⟩ = some d1 ∧ W.cell? ⟨y, 2, none⟩ = some d2 ∧ W.cell? ⟨y, 3, none⟩ = some d3 ∧ W.cell? ⟨y, 4, none⟩ = some d4 ∧ W.cell? ⟨y, 5, none⟩ = some d5 ∧ W.cell? ⟨y, 6, none⟩ = some d6 ∧ W.cell? ⟨y, 7, none⟩ = some d7 ∧ W.cell? ⟨y, 8, none⟩ = some d8 ∧ W.cell? ⟨y, 9, none⟩ = some d9 := h.1
theorem BK10.below {w W : World} {x y : Nat} {c0 c1 c2 c3 c4 c5 c6 c7 c8 c9 d0 d1 d2 d3 d4 d5 d6 d7 d8 d9 : Value} (h : BK10 w x y c0 c1 c2 c3 c4 c5 c6 c7 c8 c9 d0 d1 d2 d3 d4 d5 d6 d7 d8 d9 W) : Below w.heap.size w W := h.2.2.2
theorem BK10.next {w W W' : World} {x y : Nat} {c0 c1 c2 c3 c4 c5 c6 c7 c8 c9 d0 d1 d2 d3 d4 d5 d6 d7 d8 d9 : Value} (h : BK10 w x y c0 c1 c2 c3 c4 c5 c6 c7 c8 c9 d0 d1 d2 d3 d4 d5 d6 d7 d8 d9 W) (hb : Below W.heap.size W W') : BK10 w x y c0 c1 c2 c3 c4 c5 c6 c7 c8 c9 d0 d1 d2 d3 d4 d5 d6 d7 d8 d9 W' := by
  obtain ⟨⟨g0, g1, g2, g3, g4, g5, g6, g7, g8, g9, f0, f1, f2, f3, f4, f5, f6, f7, f8, f9⟩, hx, hy, hB⟩ := h
  exact ⟨⟨(hb.cell (p := ⟨x, _, none⟩) hx).trans g0, (hb.cell (p := ⟨x, _, none⟩) hx).trans g1, (hb.cell (p := ⟨x, _, none⟩) hx).trans g2, (hb.cell (p := ⟨x, _, none⟩) hx).trans g3, (hb.cell (p := ⟨x, _, none⟩) hx).trans g4, (hb.cell (p := ⟨x, _, none⟩) hx).trans g5, (hb.cell (p := ⟨x, _, none⟩) hx).trans g6, (hb.cell (p := ⟨x, _, none⟩) hx).trans g7, (hb.cell (p := ⟨x, _, none⟩) hx).trans g8, (hb.cell (p := ⟨x, _, none⟩) hx).trans g9, (hb.cell (p := ⟨y, _, none⟩) hy).trans f0, (hb.cell (p := ⟨y, _, none⟩) hy).trans f1, (hb.cell (p := ⟨y, _, none⟩) hy).trans f2, (hb.cell (p := ⟨y, _, none⟩) hy).trans f3, (hb.cell (p := ⟨y, _, none⟩) hy).trans f4, (hb.cell (p := ⟨y, _, none⟩) hy).trans f5, (hb.cell (p := ⟨y, _, none⟩) hy).trans f6, (hb.cell (p := ⟨y, _, none⟩) hy).trans f7, (hb.cell (p := ⟨y, _, none⟩) hy).trans f8, (hb.cell (p := ⟨y, _, none⟩) hy).trans f9⟩, Nat.lt_of_lt_of_le hx hb.size, Nat.lt_of_lt_of_le hy hb.size, hB.trans (hb.mono hB.size)⟩
theorem BK10.start (w : World) (c0 c1 c2 c3 c4 c5 c6 c7 c8 c9 d0 d1 d2 d3 d4 d5 d6 d7 d8 d9 : Value) (t : TypeId) : BK10 w (w.heap.size) (w.heap.size + 1) c0 c1 c2 c3 c4 c5 c6 c7 c8 c9 d0 d1 d2 d3 d4 d5 d6 d7 d8 d9 ((w.alloc (.cells #[c0, c1, c2, c3, c4, c5, c6, c7, c8, c9] t)).alloc (.cells #[d0, d1, d2, d3, d4, d5, d6, d7, d8, d9] t)).drew := by
  have k0 : ((w.alloc (.cells #[c0, c1, c2, c3, c4, c5, c6, c7, c8, c9] t)).alloc (.cells #[d0, d1, d2, d3, d4, d5, d6, d7, d8, d9] t)).drew.heap[w.heap.size]? = some (.cells #[c0, c1, c2, c3, c4, c5, c6, c7, c8, c9] t) := by
    show ((w.alloc (.cells #[c0, c1, c2, c3, c4, c5, c6, c7, c8, c9] t)).alloc (.cells #[d0, d1, d2, d3, d4, d5, d6, d7, d8, d9] t)).heap[w.heap.size]? = _
    rw [Below.heap_alloc _ _ _ (by simp)]
    show (w.heap.push _)[w.heap.size]? = _; simp
  have k1 : ((w.alloc (.cells #[c0, c1, c2, c3, c4, c5, c6, c7, c8, c9] t)).alloc (.cells #[d0, d1, d2, d3, d4, d5, d6, d7, d8, d9] t)).drew.heap[w.heap.size + 1]? = some (.cells #[d0, d1, d2, d3, d4, d5, d6, d7, d8, d9] t) := by
    show ((w.heap.push _).push _)[w.heap.size + 1]? = _
    rw [Array.getElem?_push, if_pos (by simp)]
  refine ⟨⟨?_, ?_, ?_, ?_, ?_, ?_, ?_, ?_, ?_, ?_, ?_, ?_, ?_, ?_, ?_, ?_, ?_, ?_, ?_, ?_⟩, ?_, ?_, Below.drew (((Below.refl _ _).alloc (Nat.le_refl _) _).alloc (by simp) _)⟩
  all_goals first | (simp only [World.cell?]; first | (rw [k0]; rfl) | (rw [k1]; rfl)) | (show _ < ((w.heap.push _).push _).size; simp; done) | (show _ < ((w.heap.push _).push _).size; simp; omega)
theorem BK10.start2 (w : World) (c0 c1 c2 c3 c4 c5 c6 c7 c8 c9 d0 d1 d2 d3 d4 d5 d6 d7 d8 d9 : Value) (t : TypeId) : BK10 w (w.heap.size + 1) (w.heap.size) c0 c1 c2 c3 c4 c5 c6 c7 c8 c9 d0 d1 d2 d3 d4 d5 d6 d7 d8 d9 ((w.alloc (.cells #[d0, d1, d2, d3, d4, d5, d6, d7, d8, d9] t)).alloc (.cells #[c0, c1, c2, c3, c4, c5, c6, c7, c8, c9] t)).drew := by
  have k0 : ((w.alloc (.cells #[d0, d1, d2, d3, d4, d5, d6, d7, d8, d9] t)).alloc (.cells #[c0, c1, c2, c3, c4, c5, c6, c7, c8, c9] t)).drew.heap[w.heap.size]? = some (.cells #[d0, d1, d2, d3, d4, d5, d6, d7, d8, d9] t) := by
    show ((w.alloc (.cells #[d0, d1, d2, d3, d4, d5, d6, d7, d8, d9] t)).alloc (.cells #[c0, c1, c2, c3, c4, c5, c6, c7, c8, c9] t)).heap[w.heap.size]? = _
    rw [Below.heap_alloc _ _ _ (by simp)]
    show (w.heap.push _)[w.heap.size]? = _; simp
  have k1 : ((w.alloc (.cells #[d0, d1, d2, d3, d4, d5, d6, d7, d8, d9] t)).alloc (.cells #[c0, c1, c2, c3, c4, c5, c6, c7, c8, c9] t)).drew.heap[w.heap.size + 1]? = some (.cells #[c0, c1, c2, c3, c4, c5, c6, c7, c8, c9] t) := by
    show ((w.heap.push _).push _)[w.heap.size + 1]? = _
    rw [Array.getElem?_push, if_pos (by simp)]
  refine ⟨⟨?_, ?_, ?_, ?_, ?_, ?_, ?_, ?_, ?_, ?_, ?_, ?_, ?_, ?_, ?_, ?_, ?_, ?_, ?_, ?_⟩, ?_, ?_, Below.drew (((Below.refl _ _).alloc (Nat.le_refl _) _).alloc (by simp) _)⟩
  all_goals first | (simp only [World.cell?]; first | (rw [k0]; rfl) | (rw [k1]; rfl)) | (show _ < ((w.heap.push _).push _).size; simp; done) | (show _ < ((w.heap.push _).push _).size; simp; omega)
theorem encVar_len (x : VarT) : (encVar x).len = 10 := by
  unfold encVar
  simp only [TrS.len, encV_len]
theorem var_at {w : World} {B : Nat} {l : List VarT} {A : Option Addr} {q : Nat} {nm tn : ByteArray} {tl tm : Nat} {has : Bool} {vk vn : Int} {vs : ByteArray} {vl : VL} {vm : VM} (h : RowT w (fun b => b < B) (rowOf encVar l) A) (hx : l[q]? = some ⟨nm, tn, tl, tm, has, .mk vk vn vs vl vm⟩) :
    ∃ b p Al kl Am km, A = some ⟨b, p, none⟩ ∧ b < B ∧ (w.cell? ⟨b, p + q * 10, none⟩ = some (.string nm) ∧ w.cell? ⟨b, p + q * 10 + 1, none⟩ = some (.string tn) ∧ w.cell? ⟨b, p + q * 10 + 2, none⟩ = some (.int .i64 (tl : Int)) ∧ w.cell? ⟨b, p + q * 10 + 3, none⟩ = some (.int .i64 (tm : Int)) ∧ w.cell? ⟨b, p + q * 10 + 4, none⟩ = some (.bool has) ∧ w.cell? ⟨b, p + q * 10 + 5, none⟩ = some (.int .i64 vk) ∧ w.cell? ⟨b, p + q * 10 + 6, none⟩ = some (.int .i64 vn) ∧ w.cell? ⟨b, p + q * 10 + 7, none⟩ = some (.string vs) ∧ w.cell? ⟨b, p + q * 10 + 8, none⟩ = some (.slice Al vl.len kl) ∧ w.cell? ⟨b, p + q * 10 + 9, none⟩ = some (.slice Am vm.len km)) ∧ VAt w B (.mk vk vn vs vl vm) (.int .i64 vk) (.int .i64 vn) (.string vs) (.slice Al vl.len kl) (.slice Am vm.len km) := by
  obtain ⟨b, p, cs, e, hb, hc, h1⟩ := rowOf_at 10 encVar_len h hx
  simp only [encVar, TS, TP] at h1
  obtain ⟨c0, _, rfl, ⟨rfl, _⟩, c1, _, rfl, ⟨rfl, _⟩, c2, _, rfl, ⟨rfl, _⟩, c3, _, rfl, ⟨rfl, _⟩, c4, ys, rfl, ⟨rfl, _⟩, h2⟩ := h1
  obtain ⟨d0, d1, d2, d3, d4, rfl, hv⟩ := ts_vp _ _ h2
  have hv := VP.at (fun _ h => h) _ _ _ _ _ _ hv
  have hv0 := hv
  unfold VAt at hv
  obtain ⟨rfl, rfl, rfl, _, ⟨Al, kl, rfl, _, _⟩, Am, km, rfl, _, _⟩ := hv
  exact ⟨b, p, Al, kl, Am, km, e, hb, ⟨hc 0 _ rfl, hc 1 _ rfl, hc 2 _ rfl, hc 3 _ rfl, hc 4 _ rfl, hc 5 _ rfl, hc 6 _ rfl, hc 7 _ rfl, hc 8 _ rfl, hc 9 _ rfl⟩, hv0⟩
def OpAt (w : World) (B : Nat) (vars : List VarT) (d : List DirT) (s : SelL) (Av Ad As : Option Addr) : Prop :=
  vars.length ≤ 9223372036854775807 ∧ RowT w (fun b => b < B) (rowOf encVar vars) Av ∧ FragAt w B d s Ad As
theorem OpAt.below {w w' : World} {B : Nat} (hb : Below B w w') {vars : List VarT} {d : List DirT} {s : SelL} {Av Ad As : Option Addr} (h : OpAt w B vars d s Av Ad As) : OpAt w' B vars d s Av Ad As :=
  ⟨h.1, RowT.below hb h.2.1, FragAt.below hb h.2.2⟩

set_option maxRecDepth 100000 in
set_option maxHeartbeats 4000000 in
theorem sop_yes (k : Int) (n : ByteArray) (vars : List VarT) (ds : List DirT) (ss : SelL) (Av Av' Ad Ad' As As' : Option Addr) (kv kv' kd kd' ks ks' : Nat) (w : World) (B : Nat) (hB : B ≤ w.heap.size) (h1 : OpAt w B vars ds ss Av Ad As) (h2 : OpAt w B vars ds ss Av' Ad' As') :
    Calls Tryz.prog 45 #[.agg #[.int .i64 k, .string n, .slice Av vars.length kv, .slice Ad ds.length kd, .slice As ss.len ks], .agg #[.int .i64 k, .string n, .slice Av' vars.length kv', .slice Ad' ds.length kd', .slice As' ss.len ks']] w fun e w' => e = .returned (.bool true) ∧ Below w.heap.size w w' := by
  have S1 := Lib.hid h1
  have S2 := Lib.hid h2
  have HB0 := Lib.hid hB
  have hvl := h1.1
  clear h1 h2 hB
  have eK : (k != k) = false := by simp
  have eN : (n.toList != n.toList) = false := by simp
  have eV : ((vars.length : Int) != (vars.length : Int)) = false := by simp
  go_enter Tryz.func45, Tryz.ntmps45
  have hW0 := Lib.hid (BK5.start w (.int .i64 k) (.string n) (.slice Av vars.length kv) (.slice Ad ds.length kd) (.slice As ss.len ks) (.int .i64 k) (.string n) (.slice Av' vars.length kv') (.slice Ad' ds.length kd') (.slice As' ss.len ks') 68)
  go_wp2_with fail
  have hB1 := hW0.out.below
  refine (dirs_yes ds Ad Ad' kd kd' _ B (Nat.le_trans HB0.out hB1.size) S1.out.2.2.1 (OpAt.below (hB1.mono HB0.out) S1.out).2.2.2.2.1 (OpAt.below (hB1.mono HB0.out) S2.out).2.2.2.2.1).mono ?_
  rintro e w3 ⟨rfl, hb3⟩
  have hW3 := Lib.hid (BK5.next hW0.out hb3)
  clear hW0 hB1 hb3
  have hc0 := hW3.out.cells
  obtain ⟨g0, g1, g2, g3, g4, f0, f1, f2, f3, f4⟩ := hc0
  have hB1 := hW3.out.below
  go_wp2_with fail
  refine (sels_yes ss As As' ks ks' _ B (Nat.le_trans HB0.out hB1.size) S1.out.2.2.2.1 (OpAt.below (hB1.mono HB0.out) S1.out).2.2.2.2.2 (OpAt.below (hB1.mono HB0.out) S2.out).2.2.2.2.2).mono ?_
  rintro e w4 ⟨rfl, hb4⟩
  have hW4 := Lib.hid (BK5.next hW3.out hb4)
  clear g0 g1 g2 g3 g4 f0 f1 f2 f3 f4 hW3 hB1 hb4
  go_wp2_with fail
  go_loopg [5] vars.length (fun g i wx => ∃ q : Nat, q + g = vars.length ∧ i = .int .i64 q ∧ BK5 w w.heap.size (w.heap.size + 1) (.int .i64 k) (.string n) (.slice Av vars.length kv) (.slice Ad ds.length kd) (.slice As ss.len ks) (.int .i64 k) (.string n) (.slice Av' vars.length kv') (.slice Ad' ds.length kd') (.slice As' ss.len ks') wx)
  case atStart => exact ⟨0, by omega, rfl, hW4.out⟩
  case round =>
    obtain ⟨q, hq, rfl, hb⟩ := hrel
    have hWW := Lib.hid hb
    have HBB := Lib.hid hb.below
    have hx1 : w.heap.size < wr.heap.size := hb.2.1
    have hx2 : w.heap.size + 1 < wr.heap.size := hb.2.2.1
    obtain ⟨_, _, h2, _, _, _, _, h2', _, _⟩ := hb.cells
    clear hb hW4
    cases gk with
    | zero =>
      obtain rfl : q = vars.length := by omega
      go_wp2_with fail
      go_ret
      exact ⟨rfl, HBB.out⟩
    | succ g =>
      have hqn : q < vars.length := by omega
      have hqn' : (q : Int) < (vars.length : Int) := by omega
      obtain ⟨⟨nm, tn, tl, tm, has, ⟨vk, vn, vs, vl, vm⟩⟩, hv⟩ : ∃ x, vars[q]? = some x := ⟨_, List.getElem?_eq_getElem hqn⟩
      obtain ⟨b, o, Al, kl, Am, km, rfl, hblt, ⟨g0, g1, g2, g3, g4, g5, g6, g7, g8, g9⟩, V1⟩ := var_at (OpAt.below (HBB.out.mono HB0.out) S1.out).2.1 hv
      obtain ⟨b', o', Al', kl', Am', km', rfl, hblt', ⟨f0, f1, f2, f3, f4, f5, f6, f7, f8, f9⟩, V2⟩ := var_at (OpAt.below (HBB.out.mono HB0.out) S2.out).2.1 hv
      have V1 := Lib.hid V1
      have V2 := Lib.hid V2
      have HBX := Lib.hid (Nat.le_trans HB0.out HBB.out.size)
      have eM : (nm.toList != nm.toList) = false := by simp
      have eT : (tn.toList != tn.toList) = false := by simp
      have eT' : (tn.toList == tn.toList) = true := by simp
      have eH : (has != has) = false := by simp
      have hw1 : b < wr.heap.size := Nat.lt_of_lt_of_le hblt (Nat.le_trans HB0.out HBB.out.size)
      have hw2 : b' < wr.heap.size := Nat.lt_of_lt_of_le hblt' (Nat.le_trans HB0.out HBB.out.size)
      clear hv hblt hblt'
      go_wp2_with fail
      go_region
      · have hW0 := Lib.hid (BK10.start wr (.string nm) (.string tn) (.int .i64 (tl : Int)) (.int .i64 (tm : Int)) (.bool has) (.int .i64 vk) (.int .i64 vn) (.string vs) (.slice Al vl.len kl) (.slice Am vm.len km) (.string nm) (.string tn) (.int .i64 (tl : Int)) (.int .i64 (tm : Int)) (.bool has) (.int .i64 vk) (.int .i64 vn) (.string vs) (.slice Al' vl.len kl') (.slice Am' vm.len km') 119)
        generalize ((wr.alloc (.cells #[.string nm, .string tn, .int .i64 (tl : Int), .int .i64 (tm : Int), .bool has, .int .i64 vk, .int .i64 vn, .string vs, .slice Al vl.len kl, .slice Am vm.len km] 119)).alloc (.cells #[.string nm, .string tn, .int .i64 (tl : Int), .int .i64 (tm : Int), .bool has, .int .i64 vk, .int .i64 vn, .string vs, .slice Al' vl.len kl', .slice Am' vm.len km'] 119)).drew = W at hW0 ⊢
        have hc0 := hW0.out.cells
        obtain ⟨g0, g1, g2, g3, g4, g5, g6, g7, g8, g9, f0, f1, f2, f3, f4, f5, f6, f7, f8, f9⟩ := hc0
        have hB1 := hW0.out.below
        have hW5 := Lib.hid (BK5.next hWW.out hB1)
        clear h2 h2'
        go_wp2_with fail
        refine ((vsame_any _).yes rfl (.int .i64 vk) (.int .i64 vn) (.string vs) (.slice Al vl.len kl) (.slice Am vm.len km) (.int .i64 vk) (.int .i64 vn) (.string vs) (.slice Al' vl.len kl') (.slice Am' vm.len km') _ B (Nat.le_trans HBX.out hB1.size) (VAt.below (hB1.mono HBX.out) _ _ _ _ _ _ V1.out) (VAt.below (hB1.mono HBX.out) _ _ _ _ _ _ V2.out)).mono ?_
        rintro e w2 ⟨rfl, hb2⟩
        have hW6 := Lib.hid (BK5.next hW5.out hb2)
        clear g0 g1 g2 g3 g4 g5 g6 g7 g8 g9 f0 f1 f2 f3 f4 f5 f6 f7 f8 f9 hW0 hB1 hb2 hW5
        go_wp2_with fail
        go_roundg g
        case measure => omega
        case rel => exact ⟨q + 1, by omega, by go_num, hW6.out⟩
      · have hW0 := Lib.hid (BK10.start2 wr (.string nm) (.string tn) (.int .i64 (tl : Int)) (.int .i64 (tm : Int)) (.bool has) (.int .i64 vk) (.int .i64 vn) (.string vs) (.slice Al vl.len kl) (.slice Am vm.len km) (.string nm) (.string tn) (.int .i64 (tl : Int)) (.int .i64 (tm : Int)) (.bool has) (.int .i64 vk) (.int .i64 vn) (.string vs) (.slice Al' vl.len kl') (.slice Am' vm.len km') 119)
        generalize ((wr.alloc (.cells #[.string nm, .string tn, .int .i64 (tl : Int), .int .i64 (tm : Int), .bool has, .int .i64 vk, .int .i64 vn, .string vs, .slice Al' vl.len kl', .slice Am' vm.len km'] 119)).alloc (.cells #[.string nm, .string tn, .int .i64 (tl : Int), .int .i64 (tm : Int), .bool has, .int .i64 vk, .int .i64 vn, .string vs, .slice Al vl.len kl, .slice Am vm.len km] 119)).drew = W at hW0 ⊢
        have hc0 := hW0.out.cells
        obtain ⟨g0, g1, g2, g3, g4, g5, g6, g7, g8, g9, f0, f1, f2, f3, f4, f5, f6, f7, f8, f9⟩ := hc0
        have hB1 := hW0.out.below
        have hW5 := Lib.hid (BK5.next hWW.out hB1)
        clear h2 h2'
        go_wp2_with fail
        refine ((vsame_any _).yes rfl (.int .i64 vk) (.int .i64 vn) (.string vs) (.slice Al vl.len kl) (.slice Am vm.len km) (.int .i64 vk) (.int .i64 vn) (.string vs) (.slice Al' vl.len kl') (.slice Am' vm.len km') _ B (Nat.le_trans HBX.out hB1.size) (VAt.below (hB1.mono HBX.out) _ _ _ _ _ _ V1.out) (VAt.below (hB1.mono HBX.out) _ _ _ _ _ _ V2.out)).mono ?_
        rintro e w2 ⟨rfl, hb2⟩
        have hW6 := Lib.hid (BK5.next hW5.out hb2)
        clear g0 g1 g2 g3 g4 g5 g6 g7 g8 g9 f0 f1 f2 f3 f4 f5 f6 f7 f8 f9 hW0 hB1 hb2 hW5
        go_wp2_with fail
        go_roundg g
        case measure => omega
        case rel => exact ⟨q + 1, by omega, by go_num, hW6.out⟩
end Go.Proofs.YtpkmbhnikilihaaGreatDoor
