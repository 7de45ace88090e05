/- defs.find and what asks it: is, Leaf, Composite, Entry. -/
import Derived.Test.YtcfdfgbobnocnaaGreatDoorVGet
import Derived.Deep.Cut
namespace Go.Proofs.YtcfdfgbobnocnaaGreatDoor
open Go.RowKit

/-- One of the names that are always there. -/
def scalarB (n : ByteArray) : Bool := n.toList == [73, 110, 116] || n.toList == [83, 116, 114, 105, 110, 103] || n.toList == [66, 111, 111, 108, 101, 97, 110] || n.toList == [73, 68]
def zeroD : DefnT := ⟨0, ⟨#[]⟩, [], [], [], []⟩
/-- The definition of a name. -/
def findL : List DefnT → ByteArray → DefnT × Bool
  | [], _ => (zeroD, false)
  | d :: t, n => if d.name.toList == n.toList then (d, true) else findL t n
def findD (l : List DefnT) (n : ByteArray) : DefnT × Bool := if scalarB n = true then (⟨0, n, [], [], [], []⟩, true) else findL l n
theorem findL_at {l : List DefnT} {q : Nat} {d : DefnT} {n : ByteArray} (h : l[q]? = some d) : findL (l.drop q) n = if d.name.toList == n.toList then (d, true) else findL (l.drop (q + 1)) n := by
  have hq : q < l.length := (List.getElem?_eq_some_iff.1 h).1
  have e : l[q] = d := (List.getElem?_eq_some_iff.1 h).2
  rw [List.drop_eq_getElem_cons hq, e, findL]
/-- The cells of a definition. -/
theorem defn_cells {w : World} {P : Nat → Prop} {d : DefnT} {cs : List Value} (h : TS w P (encDefn d) cs) :
    ∃ Af kf Ax kx Ap kp Am km, cs = [.int .i64 d.kind, .string d.name, .slice Af d.faces.length kf, .slice Ax d.fields.length kx, .slice Ap d.parts.length kp, .slice Am d.params.length km] ∧ d.name.size ≤ 9223372036854775807 ∧
      (d.faces.length ≤ 9223372036854775807 ∧ RowT w P (rowOf encStr d.faces) Af) ∧ (d.fields.length ≤ 9223372036854775807 ∧ RowT w P (rowOf encField d.fields) Ax) ∧
      (d.parts.length ≤ 9223372036854775807 ∧ RowT w P (rowOf encStr d.parts) Ap) ∧ d.params.length ≤ 9223372036854775807 ∧ RowT w P (rowOf encVar d.params) Am := by
  simp only [encDefn, TS, TP] at h
  obtain ⟨c0, _, rfl, ⟨rfl, _⟩, c1, _, rfl, ⟨rfl, hz⟩, c2, _, rfl, ⟨Af, kf, rfl, l2, h2⟩, c3, _, rfl, ⟨Ax, kx, rfl, l3, h3⟩, c4, _, rfl, ⟨Ap, kp, rfl, l4, h4⟩, c5, _, rfl, ⟨Am, km, rfl, l5, h5⟩, rfl⟩ := h
  simp only [rowOf_len] at *
  exact ⟨Af, kf, Ax, kx, Ap, kp, Am, km, rfl, hz, ⟨l2, h2⟩, ⟨l3, h3⟩, ⟨l4, h4⟩, l5, h5⟩
theorem defn_at {w : World} {P : Nat → Prop} {l : List DefnT} {A : Option Addr} {q : Nat} {d : DefnT} (h : RowT w P (rowOf encDefn l) A) (hx : l[q]? = some d) :
    ∃ b p c0 c1 c2 c3 c4 c5, A = some ⟨b, p, none⟩ ∧ P b ∧ (w.cell? ⟨b, p + q * 6, none⟩ = some c0 ∧ w.cell? ⟨b, p + q * 6 + 1, none⟩ = some c1 ∧ w.cell? ⟨b, p + q * 6 + 2, none⟩ = some c2 ∧ w.cell? ⟨b, p + q * 6 + 3, none⟩ = some c3 ∧ w.cell? ⟨b, p + q * 6 + 4, none⟩ = some c4 ∧ w.cell? ⟨b, p + q * 6 + 5, none⟩ = some c5) ∧ TS w P (encDefn d) [c0, c1, c2, c3, c4, c5] := by
  obtain ⟨b, p, cs, e, hb, hc, h1⟩ := rowOf_at 6 (fun _ => rfl) h hx
  obtain ⟨Af, kf, Ax, kx, Ap, kp, Am, km, rfl, _⟩ := defn_cells h1
  exact ⟨b, p, _, _, _, _, _, _, e, hb, ⟨hc 0 _ rfl, hc 1 _ rfl, hc 2 _ rfl, hc 3 _ rfl, hc 4 _ rfl, hc 5 _ rfl⟩, h1⟩
theorem TS.low {w w' : World} {B : Nat} (hb : Below B w w') {s : TrS} {cs : List Value} (h : TS w (fun b => b < B) s cs) : TS w' (fun b => b < B) s cs :=
  TS.keep (fun b hlt => ⟨hlt, hb.block b hlt⟩) _ _ h
/-- A schema that comes in: its cells. -/
theorem sch_cells {w : World} {P : Nat → Prop} {S : SchT} {cs : List Value} (h : TS w P (encSch S) cs) :
    ∃ A k, cs = [.slice A S.defs.length k, .string S.query, .string S.mutation] ∧ S.defs.length ≤ 9223372036854775807 ∧ RowT w P (rowOf encDefn S.defs) A := by
  simp only [encSch, TS, TP] at h
  obtain ⟨c0, _, rfl, ⟨A, k, rfl, l0, h0⟩, c1, _, rfl, ⟨rfl, _⟩, c2, _, rfl, ⟨rfl, _⟩, rfl⟩ := h
  simp only [rowOf_len] at *
  exact ⟨A, k, rfl, l0, h0⟩
theorem ret_d2 {R : Ending → World → Prop} {fn : Func} {a : Act} {W : World} {c0 c1 c2 c3 c4 c5 : Value} {p u b : Nat} (hf : fn.results = #[.cell p 65, .tmp u]) (h2 : a.tmps.getD p undef = .pointer (some ⟨b, 0, none⟩)) (hd : a.defers = [])
    (hc : W.heap[b]? = some (.cells #[c0, c1, c2, c3, c4, c5] 65 (0, 0))) (hR : R (.returned (.tuple #[.agg #[c0, c1, c2, c3, c4, c5], a.tmps.getD u undef])) W) : bodyPost Tryz.prog fn R .ret a W := by
  have hl : (loadVar 65 ⟨b, 0, none⟩).run Tryz.prog W = .ok (.agg #[c0, c1, c2, c3, c4, c5]) W :=
    run_loadVar_row W b 65 65 #[c0, c1, c2, c3, c4, c5] (0, 0) _ hc Tryz.underlying65 rfl (by kernel_rfl)
  refine bodyPost_ret ?_ hd hR
  have h2' : a.tmps[p]?.getD undef = .pointer (some ⟨b, 0, none⟩) := by rw [← h2]; simp
  simp [results, hf, h2', asAddr, hl]
/-- What is found. -/
def FoundD (x : DefnT × Bool) (B : Nat) (w : World) (e : Ending) (w' : World) : Prop :=
  ∃ c0 c1 c2 c3 c4 c5, e = .returned (.tuple #[.agg #[c0, c1, c2, c3, c4, c5], .bool x.2]) ∧ TS w' (fun b => b < B) (encDefn x.1) [c0, c1, c2, c3, c4, c5] ∧ Below w.heap.size w w'
theorem defn_none {w : World} {B : Nat} (k : Int) (n : ByteArray) (hn : n.size ≤ 9223372036854775807) : TS w (fun b => b < B) (encDefn ⟨k, n, [], [], [], []⟩) [.int .i64 k, .string n, .slice none 0 0, .slice none 0 0, .slice none 0 0, .slice none 0 0] := by
  simp only [encDefn, TS, TP, rowOf]
  exact ⟨_, _, rfl, ⟨rfl, trivial⟩, _, _, rfl, ⟨rfl, hn⟩, _, _, rfl, ⟨none, 0, rfl, by simp [TrL.len], by unfold RowT; trivial⟩, _, _, rfl, ⟨none, 0, rfl, by simp [TrL.len], by unfold RowT; trivial⟩, _, _, rfl, ⟨none, 0, rfl, by simp [TrL.len], by unfold RowT; trivial⟩, _, _, rfl, ⟨none, 0, rfl, by simp [TrL.len], by unfold RowT; trivial⟩, rfl⟩
theorem dbelow_new (w : World) (o : Obj) : Below w.heap.size w (w.alloc o) := (Below.refl _ _).alloc (Nat.le_refl _) _
theorem two_below (w : World) (o o' : Obj) : Below w.heap.size w ((w.alloc o).alloc o') := (dbelow_new w o).alloc (by simp) _
theorem heap_two (w : World) (o o' : Obj) : ((w.alloc o).alloc o').heap[w.heap.size + 1]? = some o' := by
  have := heap_alloc_new (w.alloc o) o'
  rwa [show (w.alloc o).heap.size = w.heap.size + 1 by simp] at this
/-- The round of a search: the result's cells are there, all that was there stands. -/
def FK (w : World) (o : Obj) (W : World) : Prop := Below w.heap.size w W ∧ W.heap[w.heap.size + 1]? = some o ∧ w.heap.size + 2 ≤ W.heap.size
theorem FK.start (w : World) (o o' : Obj) : FK w o' ((w.alloc o).alloc o') := ⟨two_below _ _ _, heap_two _ _ _, by simp⟩
theorem FK.next {w W W' : World} {o : Obj} (h : FK w o W) (hb : Below W.heap.size W W') : FK w o W' :=
  ⟨h.1.trans (hb.mono h.1.size), (hb.block _ (by have := h.2.2; omega)).trans h.2.1, Nat.le_trans h.2.2 hb.size⟩
theorem six_cells {w : World} {g : Nat} {c0 c1 c2 c3 c4 c5 : Value} {t : TypeId} (h : w.heap[g]? = some (.cells #[c0, c1, c2, c3, c4, c5] t (0, 0))) : (w.cell? ⟨g, 0, none⟩ = some c0 ∧ w.cell? ⟨g, 1, none⟩ = some c1 ∧ w.cell? ⟨g, 2, none⟩ = some c2 ∧ w.cell? ⟨g, 3, none⟩ = some c3 ∧ w.cell? ⟨g, 4, none⟩ = some c4 ∧ w.cell? ⟨g, 5, none⟩ = some c5) ∧
    w.frozen? ⟨g, 0, none⟩ = false ∧ w.frozen? ⟨g, 1, none⟩ = false ∧ w.frozen? ⟨g, 2, none⟩ = false ∧ w.frozen? ⟨g, 3, none⟩ = false ∧ w.frozen? ⟨g, 4, none⟩ = false ∧ w.frozen? ⟨g, 5, none⟩ = false := by
  simp [World.cell?, World.frozen?, h]
/-- Six cells that are set. -/
theorem six_set {w : World} {b : Nat} {t : TypeId} {x0 x1 x2 x3 x4 x5 c0 c1 c2 c3 c4 c5 : Value} (h : w.heap[b]? = some (.cells #[x0, x1, x2, x3, x4, x5] t (0, 0))) :
    ((((((w.setCell ⟨b, 0, none⟩ c0).setCell ⟨b, 1, none⟩ c1).setCell ⟨b, 2, none⟩ c2).setCell ⟨b, 3, none⟩ c3).setCell ⟨b, 4, none⟩ c4).setCell ⟨b, 5, none⟩ c5).heap[b]? = some (.cells #[c0, c1, c2, c3, c4, c5] t (0, 0)) := by
  simp [World.setCell, Array.getElem?_modify, h]
theorem six_low {w0 w : World} {B b : Nat} {c0 c1 c2 c3 c4 c5 : Value} (h : Below B w0 w) (hb : B ≤ b) : Below B w0 ((((((w.setCell ⟨b, 0, none⟩ c0).setCell ⟨b, 1, none⟩ c1).setCell ⟨b, 2, none⟩ c2).setCell ⟨b, 3, none⟩ c3).setCell ⟨b, 4, none⟩ c4).setCell ⟨b, 5, none⟩ c5) :=
  (((((h.setCell hb _).setCell hb _).setCell hb _).setCell hb _).setCell hb _).setCell hb _
/-- One of the four names: its case of the walk. -/
theorem bne_list {n : ByteArray} {l : List UInt8} (h : ¬ n.toList = l) : (n.toList == l) = false := by simpa using h
set_option maxRecDepth 100000 in
set_option maxHeartbeats 4000000 in
theorem find_any (S : SchT) (n : ByteArray) (c0 c1 c2 : Value) (w : World) (B : Nat) (hB : B ≤ w.heap.size) (hn : n.size ≤ 9223372036854775807) (hS : TS w (fun b => b < B) (encSch S) [c0, c1, c2]) :
    Calls Tryz.prog 84 #[.agg #[c0, c1, c2], .string n] w (FoundD (findD S.defs n) B w) := by
  obtain ⟨A, k, e, hl, hR⟩ := sch_cells hS
  injection e with e0 e
  injection e with e1 e
  injection e with e2 e
  subst e0 e1 e2
  have HB0 := Lib.hid hB
  have HR := Lib.hid hR
  have HN := Lib.hid hn
  clear hB hS hR e
  cases hs : scalarB n with
  | true =>
    have hF : Hid (findD S.defs n = (⟨0, n, [], [], [], []⟩, true)) := Lib.hid (by unfold findD; rw [if_pos hs])
    unfold scalarB at hs
    simp only [Bool.or_eq_true] at hs
    clear hl
    obtain ⟨x0, h0⟩ : ∃ x, (n.toList == [73, 110, 116]) = x := ⟨_, rfl⟩
    obtain ⟨x1, h1⟩ : ∃ x, (n.toList == [83, 116, 114, 105, 110, 103]) = x := ⟨_, rfl⟩
    obtain ⟨x2, h2⟩ : ∃ x, (n.toList == [66, 111, 111, 108, 101, 97, 110]) = x := ⟨_, rfl⟩
    obtain ⟨x3, h3⟩ : ∃ x, (n.toList == [73, 68]) = x := ⟨_, rfl⟩
    rw [h0, h1, h2, h3] at hs
    have HS := Lib.hid hs
    clear hs
    cases x0
    case true =>
      clear h1 h2 h3
      go_enter Tryz.func84, Tryz.ntmps84
      go_wp2_with fail
      refine ret_d2 rfl rfl rfl (heap_two _ _ _) ?_
      rw [hF.out]
      exact ⟨_, _, _, _, _, _, rfl, defn_none _ _ HN.out, two_below _ _ _⟩
    cases x1
    case true =>
      clear h2 h3
      go_enter Tryz.func84, Tryz.ntmps84
      go_wp2_with fail
      refine ret_d2 rfl rfl rfl (heap_two _ _ _) ?_
      rw [hF.out]
      exact ⟨_, _, _, _, _, _, rfl, defn_none _ _ HN.out, two_below _ _ _⟩
    cases x2
    case true =>
      clear h3
      go_enter Tryz.func84, Tryz.ntmps84
      go_wp2_with fail
      refine ret_d2 rfl rfl rfl (heap_two _ _ _) ?_
      rw [hF.out]
      exact ⟨_, _, _, _, _, _, rfl, defn_none _ _ HN.out, two_below _ _ _⟩
    cases x3
    case true =>
      go_enter Tryz.func84, Tryz.ntmps84
      go_wp2_with fail
      refine ret_d2 rfl rfl rfl (heap_two _ _ _) ?_
      rw [hF.out]
      exact ⟨_, _, _, _, _, _, rfl, defn_none _ _ HN.out, two_below _ _ _⟩
    have := HS.out
    simp at this
  | false =>
    have hF : Hid (findD S.defs n = findL S.defs n) := Lib.hid (by unfold findD; rw [if_neg (by rw [hs]; decide)])
    unfold scalarB at hs
    simp only [Bool.or_eq_false_iff] at hs
    obtain ⟨⟨⟨h0, h1⟩, h2⟩, h3⟩ := hs
    obtain ⟨l, el⟩ : ∃ l, S.defs = l := ⟨_, rfl⟩
    rw [el] at hF HR hl ⊢
    clear el
    go_enter Tryz.func84, Tryz.ntmps84
    go_wp2_with fail
    clear h0 h1 h2 h3
    go_loopg [19] l.length (fun g i wx => ∃ q : Nat, q + g = l.length ∧ i = .int .i64 q ∧ Aside (findL (l.drop q) n = findL l n) ∧ FK w (.cells #[.int .i64 0, .string ⟨#[]⟩, .slice none 0 0, .slice none 0 0, .slice none 0 0, .slice none 0 0] 65) wx)
    case atStart => exact ⟨0, by omega, rfl, Blk.Aside.intro (by rw [List.drop_zero]), FK.start _ _ _⟩
    case round =>
      obtain ⟨q, hq, rfl, HA, hK⟩ := hrel
      have K := Lib.hid hK
      clear hK
      cases gk with
      | zero =>
        obtain rfl : q = l.length := by omega
        have hG : Hid (findL l n = (zeroD, false)) := Lib.hid (by rw [← HA.out, List.drop_length]; rfl)
        obtain ⟨g0, f0⟩ := six_cells K.out.2.1
        clear HA
        go_wp2_with fail
        refine ret_d2 rfl rfl rfl (six_set K.out.2.1) ?_
        rw [hF.out, hG.out]
        exact ⟨_, _, _, _, _, _, rfl, defn_none _ _ (by decide), six_low K.out.1 (by omega)⟩
      | succ g =>
        have hqn : q < l.length := by omega
        have hqn' : (q : Int) < (l.length : Int) := by omega
        obtain ⟨d, hd⟩ : ∃ x, l[q]? = some x := ⟨_, List.getElem?_eq_getElem hqn⟩
        obtain ⟨b, p, d0, d1, d2, d3, d4, d5, rfl, hlt, ⟨g0, g1, g2, g3, g4, g5⟩, hT⟩ := defn_at (RowT.below (K.out.1.mono HB0.out) HR.out) hd
        have HT := Lib.hid hT
        obtain ⟨Af, kf, Ax, kx, Ap, kp, Am, km, e, _⟩ := defn_cells hT
        simp only [List.cons.injEq, and_true] at e
        obtain ⟨rfl, rfl, rfl, rfl, rfl, rfl⟩ := e
        have hN := findL_at (n := n) hd
        have hlt' : b < wr.heap.size := Nat.lt_of_lt_of_le hlt (Nat.le_trans HB0.out K.out.1.size)
        clear hT hd hlt
        cases e : (d.name.toList == n.toList) with
        | true =>
          have hG : Hid (findL l n = (d, true)) := Lib.hid (by rw [← HA.out, hN, if_pos e])
          have HL := Lib.hid (K.out.1.mono HB0.out)
          clear HA hN
          go_upto_region 11 with fail
          clear g0 g1 g2 g3 g4 g5
          have hx := heap_alloc_new wr (.cells #[.int .i64 d.kind, .string d.name, .slice Af d.faces.length kf, .slice Ax d.fields.length kx, .slice Ap d.parts.length kp, .slice Am d.params.length km] 65)
          have K2 := Lib.hid (K.out.next (dbelow_new wr (.cells #[.int .i64 d.kind, .string d.name, .slice Af d.faces.length kf, .slice Ax d.fields.length kx, .slice Ap d.parts.length kp, .slice Am d.params.length km] 65)))
          have HT2 := Lib.hid (TS.low ((dbelow_new wr (.cells #[.int .i64 d.kind, .string d.name, .slice Af d.faces.length kf, .slice Ax d.fields.length kx, .slice Ap d.parts.length kp, .slice Am d.params.length km] 65)).mono (Nat.le_trans HB0.out K.out.1.size)) HT.out)
          generalize wr.alloc (.cells #[.int .i64 d.kind, .string d.name, .slice Af d.faces.length kf, .slice Ax d.fields.length kx, .slice Ap d.parts.length kp, .slice Am d.params.length km] 65) = wz at hx K2 HT2 ⊢
          obtain ⟨⟨y0, y1, y2, y3, y4, y5⟩, _⟩ := six_cells hx
          obtain ⟨⟨z0, z1, z2, z3, z4, z5⟩, zf0, zf1, zf2, zf3, zf4, zf5⟩ := six_cells K2.out.2.1
          have hne : ¬ w.heap.size + 1 = wr.heap.size := by have := K.out.2.2; omega
          clear hx
          go_wp2_with fail
          refine ret_d2 rfl rfl rfl (six_set K2.out.2.1) ?_
          rw [hF.out, hG.out]
          exact ⟨_, _, _, _, _, _, rfl, TS.low (B := B) (six_low (b := w.heap.size + 1) (Below.refl _ _) (Nat.le_succ_of_le HB0.out)) HT2.out, six_low (b := w.heap.size + 1) K2.out.1 (Nat.le_succ _)⟩
        | false =>
          have hG : Hid (findL (l.drop (q + 1)) n = findL l n) := Lib.hid (by rw [← HA.out, hN, if_neg (by rw [e]; decide)])
          clear HA hN
          go_wp2_with fail
          go_roundg g
          case measure => omega
          case rel => exact ⟨q + 1, by omega, by go_num, Blk.Aside.intro hG.out, K.out.next (dbelow_new _ _)⟩
/-- Is what is found of one of these kinds? -/
def isD (l : List DefnT) (n : ByteArray) (ks : List Int) : Bool := (findD l n).2 && hasI ks (findD l n).1.kind
theorem ints_new (w : World) {o : Obj} {t : TypeId} {l : List Int} {B : Nat} (hB : w.heap.size < B) (ho : o = .cells (l.map (Value.int .i64)).toArray t) : IntsAt (w.alloc o) B (some ⟨w.heap.size, 0, none⟩) l := fun j x hx => by
  refine ⟨_, _, rfl, hB, ?_⟩
  subst ho
  rw [World.cell?_alloc_at _ _ _ _ rfl]
  simp [hx]
def leafD (l : List DefnT) (n : ByteArray) : Bool := isD l n [0, 4]
def compD (l : List DefnT) (n : ByteArray) : Bool := isD l n [1, 2, 3]
def entryD (l : List DefnT) (n : ByteArray) : Bool := isD l n [0, 4, 5]
end Go.Proofs.YtcfdfgbobnocnaaGreatDoor
