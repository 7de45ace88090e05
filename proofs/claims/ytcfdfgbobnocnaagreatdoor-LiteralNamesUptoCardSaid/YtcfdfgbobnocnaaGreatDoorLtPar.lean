/- literal's param: the first parameter of a name. (gen_ten.py wrote it.) -/
import Derived.Test.YtcfdfgbobnocnaaGreatDoorLtM
namespace Go.Proofs.YtcfdfgbobnocnaaGreatDoor
open Go.RowKit

theorem ten_cells {w : World} {g : Nat} {c0 c1 c2 c3 c4 c5 c6 c7 c8 c9 : Value} {t : TypeId} (h : w.heap[g]? = some (.cells #[c0, c1, c2, c3, c4, c5, c6, c7, c8, c9] t (0, 0))) : (w.cell? ⟨g, 0, none⟩ = some c0 ∧ w.cell? ⟨g, 1, none⟩ = some c1 ∧ w.cell? ⟨g, 2, none⟩ = some c2 ∧ w.cell? ⟨g, 3, none⟩ = some c3 ∧ w.cell? ⟨g, 4, none⟩ = some c4 ∧ w.cell? ⟨g, 5, none⟩ = some c5 ∧ w.cell? ⟨g, 6, none⟩ = some c6 ∧ w.cell? ⟨g, 7, none⟩ = some c7 ∧ w.cell? ⟨g, 8, none⟩ = some c8 ∧ w.cell? ⟨g, 9, none⟩ = some c9) ∧ w.frozen? ⟨g, 0, none⟩ = false ∧ w.frozen? ⟨g, 1, none⟩ = false ∧ w.frozen? ⟨g, 2, none⟩ = false ∧ w.frozen? ⟨g, 3, none⟩ = false ∧ w.frozen? ⟨g, 4, none⟩ = false ∧ w.frozen? ⟨g, 5, none⟩ = false ∧ w.frozen? ⟨g, 6, none⟩ = false ∧ w.frozen? ⟨g, 7, none⟩ = false ∧ w.frozen? ⟨g, 8, none⟩ = false ∧ w.frozen? ⟨g, 9, none⟩ = false := by
  simp [World.cell?, World.frozen?, h]
theorem ten_set {w : World} {b : Nat} {t : TypeId} {x0 x1 x2 x3 x4 x5 x6 x7 x8 x9 c0 c1 c2 c3 c4 c5 c6 c7 c8 c9 : Value} (h : w.heap[b]? = some (.cells #[x0, x1, x2, x3, x4, x5, x6, x7, x8, x9] t (0, 0))) :
    ((((((((((w.setCell ⟨b, 0, none⟩ c0).setCell ⟨b, 1, none⟩ c1).setCell ⟨b, 2, none⟩ c2).setCell ⟨b, 3, none⟩ c3).setCell ⟨b, 4, none⟩ c4).setCell ⟨b, 5, none⟩ c5).setCell ⟨b, 6, none⟩ c6).setCell ⟨b, 7, none⟩ c7).setCell ⟨b, 8, none⟩ c8).setCell ⟨b, 9, none⟩ c9).heap[b]? = some (.cells #[c0, c1, c2, c3, c4, c5, c6, c7, c8, c9] t (0, 0)) := by
  simp [World.setCell, Array.getElem?_modify, h]
theorem ten_heap {w : World} {b k : Nat} {c0 c1 c2 c3 c4 c5 c6 c7 c8 c9 : Value} (h : k ≠ b) : ((((((((((w.setCell ⟨b, 0, none⟩ c0).setCell ⟨b, 1, none⟩ c1).setCell ⟨b, 2, none⟩ c2).setCell ⟨b, 3, none⟩ c3).setCell ⟨b, 4, none⟩ c4).setCell ⟨b, 5, none⟩ c5).setCell ⟨b, 6, none⟩ c6).setCell ⟨b, 7, none⟩ c7).setCell ⟨b, 8, none⟩ c8).setCell ⟨b, 9, none⟩ c9).heap[k]? = w.heap[k]? :=
  (Below.heap_setCell _ _ _ _ h).trans ((Below.heap_setCell _ _ _ _ h).trans ((Below.heap_setCell _ _ _ _ h).trans ((Below.heap_setCell _ _ _ _ h).trans ((Below.heap_setCell _ _ _ _ h).trans ((Below.heap_setCell _ _ _ _ h).trans ((Below.heap_setCell _ _ _ _ h).trans ((Below.heap_setCell _ _ _ _ h).trans ((Below.heap_setCell _ _ _ _ h).trans ((Below.heap_setCell _ _ _ _ h))))))))))
theorem ten_low {w0 w : World} {B b : Nat} {c0 c1 c2 c3 c4 c5 c6 c7 c8 c9 : Value} (h : Below B w0 w) (hb : B ≤ b) : Below B w0 ((((((((((w.setCell ⟨b, 0, none⟩ c0).setCell ⟨b, 1, none⟩ c1).setCell ⟨b, 2, none⟩ c2).setCell ⟨b, 3, none⟩ c3).setCell ⟨b, 4, none⟩ c4).setCell ⟨b, 5, none⟩ c5).setCell ⟨b, 6, none⟩ c6).setCell ⟨b, 7, none⟩ c7).setCell ⟨b, 8, none⟩ c8).setCell ⟨b, 9, none⟩ c9) :=
  (((((((((h.setCell (p := ⟨b, 0, none⟩) hb _).setCell (p := ⟨b, 1, none⟩) hb _).setCell (p := ⟨b, 2, none⟩) hb _).setCell (p := ⟨b, 3, none⟩) hb _).setCell (p := ⟨b, 4, none⟩) hb _).setCell (p := ⟨b, 5, none⟩) hb _).setCell (p := ⟨b, 6, none⟩) hb _).setCell (p := ⟨b, 7, none⟩) hb _).setCell (p := ⟨b, 8, none⟩) hb _).setCell (p := ⟨b, 9, none⟩) hb _
theorem ten_news (w : World) (c0 c1 c2 c3 c4 c5 c6 c7 c8 c9 : Value) (t : TypeId) {n : Nat} (hn : n = w.heap.size) : ∀ (j : Nat) u, [c0, c1, c2, c3, c4, c5, c6, c7, c8, c9][j]? = some u → (w.alloc (.cells #[c0, c1, c2, c3, c4, c5, c6, c7, c8, c9] t)).cell? ((⟨n, 0, none⟩ : Addr).add j) = some u := by
  subst hn
  intro j u hu
  rw [add_at, Nat.zero_add]
  obtain ⟨⟨h0, h1, h2, h3, h4, h5, h6, h7, h8, h9⟩, _⟩ := ten_cells (heap_alloc_new w (.cells #[c0, c1, c2, c3, c4, c5, c6, c7, c8, c9] t))
  match j, hu with
  | 0, hu => cases hu; exact h0
  | 1, hu => cases hu; exact h1
  | 2, hu => cases hu; exact h2
  | 3, hu => cases hu; exact h3
  | 4, hu => cases hu; exact h4
  | 5, hu => cases hu; exact h5
  | 6, hu => cases hu; exact h6
  | 7, hu => cases hu; exact h7
  | 8, hu => cases hu; exact h8
  | 9, hu => cases hu; exact h9
theorem nine_cells {w : World} {g : Nat} {c0 c1 c2 c3 c4 c5 c6 c7 c8 : Value} {t : TypeId} (h : w.heap[g]? = some (.cells #[c0, c1, c2, c3, c4, c5, c6, c7, c8] t (0, 0))) : (w.cell? ⟨g, 0, none⟩ = some c0 ∧ w.cell? ⟨g, 1, none⟩ = some c1 ∧ w.cell? ⟨g, 2, none⟩ = some c2 ∧ w.cell? ⟨g, 3, none⟩ = some c3 ∧ w.cell? ⟨g, 4, none⟩ = some c4 ∧ w.cell? ⟨g, 5, none⟩ = some c5 ∧ w.cell? ⟨g, 6, none⟩ = some c6 ∧ w.cell? ⟨g, 7, none⟩ = some c7 ∧ w.cell? ⟨g, 8, none⟩ = some c8) ∧ w.frozen? ⟨g, 0, none⟩ = false ∧ w.frozen? ⟨g, 1, none⟩ = false ∧ w.frozen? ⟨g, 2, none⟩ = false ∧ w.frozen? ⟨g, 3, none⟩ = false ∧ w.frozen? ⟨g, 4, none⟩ = false ∧ w.frozen? ⟨g, 5, none⟩ = false ∧ w.frozen? ⟨g, 6, none⟩ = false ∧ w.frozen? ⟨g, 7, none⟩ = false ∧ w.frozen? ⟨g, 8, none⟩ = false := by
  simp [World.cell?, World.frozen?, h]
theorem nine_set {w : World} {b : Nat} {t : TypeId} {x0 x1 x2 x3 x4 x5 x6 x7 x8 c0 c1 c2 c3 c4 c5 c6 c7 c8 : Value} (h : w.heap[b]? = some (.cells #[x0, x1, x2, x3, x4, x5, x6, x7, x8] t (0, 0))) :
    (((((((((w.setCell ⟨b, 0, none⟩ c0).setCell ⟨b, 1, none⟩ c1).setCell ⟨b, 2, none⟩ c2).setCell ⟨b, 3, none⟩ c3).setCell ⟨b, 4, none⟩ c4).setCell ⟨b, 5, none⟩ c5).setCell ⟨b, 6, none⟩ c6).setCell ⟨b, 7, none⟩ c7).setCell ⟨b, 8, none⟩ c8).heap[b]? = some (.cells #[c0, c1, c2, c3, c4, c5, c6, c7, c8] t (0, 0)) := by
  simp [World.setCell, Array.getElem?_modify, h]
theorem nine_heap {w : World} {b k : Nat} {c0 c1 c2 c3 c4 c5 c6 c7 c8 : Value} (h : k ≠ b) : (((((((((w.setCell ⟨b, 0, none⟩ c0).setCell ⟨b, 1, none⟩ c1).setCell ⟨b, 2, none⟩ c2).setCell ⟨b, 3, none⟩ c3).setCell ⟨b, 4, none⟩ c4).setCell ⟨b, 5, none⟩ c5).setCell ⟨b, 6, none⟩ c6).setCell ⟨b, 7, none⟩ c7).setCell ⟨b, 8, none⟩ c8).heap[k]? = w.heap[k]? :=
  (Below.heap_setCell _ _ _ _ h).trans ((Below.heap_setCell _ _ _ _ h).trans ((Below.heap_setCell _ _ _ _ h).trans ((Below.heap_setCell _ _ _ _ h).trans ((Below.heap_setCell _ _ _ _ h).trans ((Below.heap_setCell _ _ _ _ h).trans ((Below.heap_setCell _ _ _ _ h).trans ((Below.heap_setCell _ _ _ _ h).trans ((Below.heap_setCell _ _ _ _ h)))))))))
theorem nine_low {w0 w : World} {B b : Nat} {c0 c1 c2 c3 c4 c5 c6 c7 c8 : Value} (h : Below B w0 w) (hb : B ≤ b) : Below B w0 (((((((((w.setCell ⟨b, 0, none⟩ c0).setCell ⟨b, 1, none⟩ c1).setCell ⟨b, 2, none⟩ c2).setCell ⟨b, 3, none⟩ c3).setCell ⟨b, 4, none⟩ c4).setCell ⟨b, 5, none⟩ c5).setCell ⟨b, 6, none⟩ c6).setCell ⟨b, 7, none⟩ c7).setCell ⟨b, 8, none⟩ c8) :=
  ((((((((h.setCell (p := ⟨b, 0, none⟩) hb _).setCell (p := ⟨b, 1, none⟩) hb _).setCell (p := ⟨b, 2, none⟩) hb _).setCell (p := ⟨b, 3, none⟩) hb _).setCell (p := ⟨b, 4, none⟩) hb _).setCell (p := ⟨b, 5, none⟩) hb _).setCell (p := ⟨b, 6, none⟩) hb _).setCell (p := ⟨b, 7, none⟩) hb _).setCell (p := ⟨b, 8, none⟩) hb _
theorem nine_news (w : World) (c0 c1 c2 c3 c4 c5 c6 c7 c8 : Value) (t : TypeId) {n : Nat} (hn : n = w.heap.size) : ∀ (j : Nat) u, [c0, c1, c2, c3, c4, c5, c6, c7, c8][j]? = some u → (w.alloc (.cells #[c0, c1, c2, c3, c4, c5, c6, c7, c8] t)).cell? ((⟨n, 0, none⟩ : Addr).add j) = some u := by
  subst hn
  intro j u hu
  rw [add_at, Nat.zero_add]
  obtain ⟨⟨h0, h1, h2, h3, h4, h5, h6, h7, h8⟩, _⟩ := nine_cells (heap_alloc_new w (.cells #[c0, c1, c2, c3, c4, c5, c6, c7, c8] t))
  match j, hu with
  | 0, hu => cases hu; exact h0
  | 1, hu => cases hu; exact h1
  | 2, hu => cases hu; exact h2
  | 3, hu => cases hu; exact h3
  | 4, hu => cases hu; exact h4
  | 5, hu => cases hu; exact h5
  | 6, hu => cases hu; exact h6
  | 7, hu => cases hu; exact h7
  | 8, hu => cases hu; exact h8
theorem encv_cells {w : World} {P : Nat → Prop} {v : VT} {cs : List Value} (h : TS w P (encV v) cs) : ∃ A3 k3 A4 k4, cs = [.int .i64 v.kd, .int .i64 v.nn, .string v.ss, .slice A3 v.ls.len k3, .slice A4 v.ms.len k4] ∧ v.ss.size ≤ 9223372036854775807 ∧ (v.ls.len ≤ 9223372036854775807 ∧ RowT w P (encL v.ls) A3) ∧ v.ms.len ≤ 9223372036854775807 ∧ RowT w P (encM v.ms) A4 := by
  obtain ⟨k, n, s, l, m⟩ := v
  rw [encV] at h
  simp only [TS, TP] at h
  obtain ⟨_, _, rfl, ⟨rfl, _⟩, _, _, rfl, ⟨rfl, _⟩, _, _, rfl, ⟨rfl, hs⟩, _, _, rfl, ⟨A3, k3, rfl, g3, h3⟩, _, _, rfl, ⟨A4, k4, rfl, g4, h4⟩, rfl⟩ := h
  rw [encL_len] at g3 ⊢
  rw [encM_len] at g4 ⊢
  exact ⟨A3, k3, A4, k4, rfl, hs, ⟨g3, h3⟩, g4, h4⟩
theorem var_cells {w : World} {P : Nat → Prop} {x : VarT} {cs : List Value} (h : TS w P (encVar x) cs) : ∃ A3 k3 A4 k4, cs = [(.string x.name), (.string x.tn), (.int .i64 x.tl), (.int .i64 x.tm), (.bool x.has), (.int .i64 x.v.kd), (.int .i64 x.v.nn), (.string x.v.ss), (.slice A3 x.v.ls.len k3), (.slice A4 x.v.ms.len k4)] ∧ x.name.size ≤ 9223372036854775807 ∧ x.tn.size ≤ 9223372036854775807 := by
  unfold encVar at h
  simp only [TS, TP] at h
  obtain ⟨_, _, rfl, ⟨rfl, h0⟩, _, _, rfl, ⟨rfl, h1⟩, _, _, rfl, ⟨rfl, _⟩, _, _, rfl, ⟨rfl, _⟩, _, _, rfl, ⟨rfl, _⟩, h5⟩ := h
  obtain ⟨A3, k3, A4, k4, rfl, _⟩ := encv_cells h5
  exact ⟨A3, k3, A4, k4, rfl, h0, h1⟩
theorem var_at {w : World} {P : Nat → Prop} {l : List VarT} {A : Option Addr} {q : Nat} {x : VarT} (h : RowT w P (rowOf encVar l) A) (hx : l[q]? = some x) :
    ∃ b p A3 k3 A4 k4, A = some ⟨b, p, none⟩ ∧ P b ∧ (w.cell? ⟨b, p + q * 10, none⟩ = some (.string x.name) ∧ w.cell? ⟨b, p + q * 10 + 1, none⟩ = some (.string x.tn) ∧ w.cell? ⟨b, p + q * 10 + 2, none⟩ = some (.int .i64 x.tl) ∧ w.cell? ⟨b, p + q * 10 + 3, none⟩ = some (.int .i64 x.tm) ∧ w.cell? ⟨b, p + q * 10 + 4, none⟩ = some (.bool x.has) ∧ w.cell? ⟨b, p + q * 10 + 5, none⟩ = some (.int .i64 x.v.kd) ∧ w.cell? ⟨b, p + q * 10 + 6, none⟩ = some (.int .i64 x.v.nn) ∧ w.cell? ⟨b, p + q * 10 + 7, none⟩ = some (.string x.v.ss) ∧ w.cell? ⟨b, p + q * 10 + 8, none⟩ = some (.slice A3 x.v.ls.len k3) ∧ w.cell? ⟨b, p + q * 10 + 9, none⟩ = some (.slice A4 x.v.ms.len k4)) ∧ x.name.size ≤ 9223372036854775807 ∧ x.tn.size ≤ 9223372036854775807 := by
  obtain ⟨b, p, cs, e, hb, hc, h1⟩ := rowOf_at 10 len_par h hx
  obtain ⟨A3, k3, A4, k4, rfl, h2, h3⟩ := var_cells h1
  exact ⟨b, p, A3, k3, A4, k4, e, hb, ⟨hc 0 _ rfl, hc 1 _ rfl, hc 2 _ rfl, hc 3 _ rfl, hc 4 _ rfl, hc 5 _ rfl, hc 6 _ rfl, hc 7 _ rfl, hc 8 _ rfl, hc 9 _ rfl⟩, h2, h3⟩
theorem paramD_at {l : List VarT} {q : Nat} {d : VarT} {n : ByteArray} (h : l[q]? = some d) : paramD (l.drop q) n = if d.name.toList == n.toList then (d, true) else paramD (l.drop (q + 1)) n := by
  have hq : q < l.length := (List.getElem?_eq_some_iff.1 h).1
  have e : l[q] = d := (List.getElem?_eq_some_iff.1 h).2
  rw [List.drop_eq_getElem_cons hq, e, paramD]
theorem ret_p2 {R : Ending → World → Prop} {fn : Func} {a : Act} {W : World} {c0 c1 c2 c3 c4 c5 c6 c7 c8 c9 : Value} {p u b : Nat} (hf : fn.results = #[.cell p 69, .tmp u]) (h2 : a.tmps.getD p undef = .pointer (some ⟨b, 0, none⟩)) (hd : a.defers = [])
    (hc : W.heap[b]? = some (.cells #[c0, c1, c2, c3, c4, c5, c6, c7, c8, c9] 69 (0, 0))) (hR : R (.returned (.tuple #[.agg #[c0, c1, c2, c3, c4, c5, c6, c7, c8, c9], a.tmps.getD u undef])) W) : bodyPost Tryz.prog fn R .ret a W := by
  have hl : (loadVar 69 ⟨b, 0, none⟩).run Tryz.prog W = .ok (.agg #[c0, c1, c2, c3, c4, c5, c6, c7, c8, c9]) W :=
    run_loadVar_row W b 69 69 #[c0, c1, c2, c3, c4, c5, c6, c7, c8, c9] (0, 0) _ hc Tryz.underlying69 rfl (by kernel_rfl)
  refine bodyPost_ret ?_ hd hR
  have h2' : a.tmps[p]?.getD undef = .pointer (some ⟨b, 0, none⟩) := by rw [← h2]; simp
  simp [results, hf, h2', asAddr, hl]
/-- What param answers: the default's cells are any. -/
def ParO (x : VarT × Bool) (w : World) (e : Ending) (w' : World) : Prop := ∃ A3 k3 A4 k4, e = .returned (.tuple #[.agg #[.string x.1.name, .string x.1.tn, .int .i64 x.1.tl, .int .i64 x.1.tm, .bool x.1.has, .int .i64 x.1.v.kd, .int .i64 x.1.v.nn, .string x.1.v.ss, .slice A3 x.1.v.ls.len k3, .slice A4 x.1.v.ms.len k4], .bool x.2]) ∧ Below w.heap.size w w'
structure PRs (w W : World) : Prop where
  low : Below w.heap.size w W
  res : W.heap[w.heap.size]? = some (.cells #[.string ⟨#[]⟩, .string ⟨#[]⟩, .int .i64 0, .int .i64 0, .bool false, .int .i64 0, .int .i64 0, .string ⟨#[]⟩, .slice none 0 0, .slice none 0 0] 69 (0, 0))
theorem PRs.next {w W W' : World} (h : PRs w W) (hb : Below W.heap.size W W') : PRs w W' :=
  ⟨h.low.trans (hb.mono h.low.size), (hb.block _ (Array.getElem?_eq_some_iff.1 h.res).1).trans h.res⟩
set_option maxRecDepth 100000 in
set_option maxHeartbeats 8000000 in
theorem param_any (l : List VarT) (A : Option Addr) (c : Nat) (n : ByteArray) (w : World) (P : Nat → Prop) (hP : ∀ b, P b → b < w.heap.size) (hl : l.length ≤ 9223372036854775807) (_hn : n.size ≤ 9223372036854775807) (hR : RowT w P (rowOf encVar l) A) :
    Calls Tryz.prog 76 #[.slice A l.length c, .string n] w (ParO (paramD l n) w) := by
  have HR := Lib.hid hR
  have HP := Lib.hid hP
  have X0 := Lib.hid (show PRs w (w.alloc (.cells #[.string ⟨#[]⟩, .string ⟨#[]⟩, .int .i64 0, .int .i64 0, .bool false, .int .i64 0, .int .i64 0, .string ⟨#[]⟩, .slice none 0 0, .slice none 0 0] 69)) from ⟨dbelow_new _ _, heap_alloc_new _ _⟩)
  clear hR hP
  go_enter Tryz.func76, Tryz.ntmps76
  go_wp2_with fail
  go_loopg [10] l.length (fun g i wx => ∃ q : Nat, q + g = l.length ∧ i = .int .i64 q ∧ paramD (l.drop q) n = paramD l n ∧ PRs w wx)
  case atStart => exact ⟨0, by omega, rfl, rfl, X0.out⟩
  case round =>
    obtain ⟨q, hq, rfl, he, hX⟩ := hrel
    have HE := Lib.hid he
    have HX := Lib.hid hX
    clear he hX X0
    obtain ⟨_, u0, u1, u2, u3, u4, u5, u6, u7, u8, u9⟩ := ten_cells HX.out.res
    cases gk with
    | zero =>
      obtain rfl : q = l.length := by omega
      go_wp2_with fail
      refine ret_p2 rfl rfl rfl (ten_set HX.out.res) ?_
      have e := HE.out
      rw [List.drop_length, paramD] at e
      rw [← e]
      exact ⟨_, _, _, _, rfl, ten_low (b := w.heap.size) HX.out.low (Nat.le_refl _)⟩
    | succ g =>
      have hqn : q < l.length := by omega
      have hqn' : (q : Int) < (l.length : Int) := by omega
      obtain ⟨x, hx⟩ : ∃ x, l[q]? = some x := ⟨_, List.getElem?_eq_getElem hqn⟩
      obtain ⟨b, p, A3, k3, A4, k4, rfl, hb, ⟨g0, g1, g2, g3, g4, g5, g6, g7, g8, g9⟩, hs1, hs2⟩ := var_at (RowT.keep (P' := P) (fun b hb => ⟨hb, HX.out.low.block b (HP.out b hb)⟩) _ _ HR.out) hx
      have hbl : b < wr.heap.size := Nat.lt_of_lt_of_le (HP.out b hb) HX.out.low.size
      have hst := HE.out
      rw [paramD_at hx] at hst
      obtain ⟨tst, ht⟩ : ∃ t, (x.name.toList == n.toList) = t := ⟨_, rfl⟩
      rw [ht] at hst
      have HST := Lib.hid hst
      clear hx hst hb
      go_upto_region 4 with fail
      clear g0 g1 g2 g3 g4 g5 g6 g7 g8 g9 u0 u1 u2 u3 u4 u5 u6 u7 u8 u9
      have B2 := Lib.hid (dbelow_new wr (.cells #[.string x.name, .string x.tn, .int .i64 x.tl, .int .i64 x.tm, .bool x.has, .int .i64 x.v.kd, .int .i64 x.v.nn, .string x.v.ss, .slice A3 x.v.ls.len k3, .slice A4 x.v.ms.len k4] 69))
      have Y2 := heap_alloc_new wr (.cells #[.string x.name, .string x.tn, .int .i64 x.tl, .int .i64 x.tm, .bool x.has, .int .i64 x.v.kd, .int .i64 x.v.nn, .string x.v.ss, .slice A3 x.v.ls.len k3, .slice A4 x.v.ms.len k4] 69)
      generalize wr.alloc (.cells #[.string x.name, .string x.tn, .int .i64 x.tl, .int .i64 x.tm, .bool x.has, .int .i64 x.v.kd, .int .i64 x.v.nn, .string x.v.ss, .slice A3 x.v.ls.len k3, .slice A4 x.v.ms.len k4] 69) = w2 at B2 Y2 ⊢
      have X2 := Lib.hid (HX.out.next B2.out)
      generalize wr.heap.size = g2 at Y2 ⊢
      obtain ⟨⟨y0, y1, y2, y3, y4, y5, y6, y7, y8, y9⟩, _⟩ := ten_cells Y2
      obtain ⟨_, u0, u1, u2, u3, u4, u5, u6, u7, u8, u9⟩ := ten_cells X2.out.res
      clear Y2
      cases tst with
      | true =>
        go_wp2_with fail
        refine ret_p2 rfl rfl rfl (ten_set X2.out.res) ?_
        have e := HST.out
        rw [if_pos (by simp)] at e
        rw [← e]
        exact ⟨_, _, _, _, rfl, ten_low (b := w.heap.size) X2.out.low (Nat.le_refl _)⟩
      | false =>
        go_wp2_with fail
        go_roundg g
        case measure => omega
        case rel => exact ⟨q + 1, by omega, by go_num, by have e := HST.out; rw [if_neg (by simp)] at e; exact e, X2.out⟩
end Go.Proofs.YtcfdfgbobnocnaaGreatDoor
