/- literal's named. (gen_named.py wrote it.) -/
import Derived.Test.YtcfdfgbobnocnaaGreatDoorLtFind
import Derived.Test.YtcfdfgbobnocnaaGreatDoorLtOnce
import Derived.Test.YtcfdfgbobnocnaaGreatDoorLtComp
namespace Go.Proofs.YtcfdfgbobnocnaaGreatDoor
open Go.RowKit

def namedB (D : List DefnT) (n : ByteArray) (v : VT) : Bool :=
  if (n.toList == [73, 110, 116]) = true then (v.kd == 2) && (decide (-2147483648 ≤ v.nn) && decide (v.nn ≤ 2147483647)) else
  if (n.toList == [83, 116, 114, 105, 110, 103]) = true then v.kd == 4 else
  if (n.toList == [66, 111, 111, 108, 101, 97, 110]) = true then v.kd == 1 else
  if (n.toList == [73, 68]) = true then (v.kd == 4) || (v.kd == 2) else
  if ((findD D n).1.kind == 4) = true then (v.kd == 5) && hasN (findD D n).1.parts v.ss else
  if ((findD D n).1.kind == 5) = true then (v.kd == 7) && (onceB v.ms.list && (knownB (findD D n).1.params v.ms.list && compB v.ms (findD D n).1.params)) else false
/-- What a function of the cache answers. -/
def BoolC (b : Bool) (D : List DefnT) (X : Nat → Prop) (KS : List ByteArray) (M : Nat) (w : World) (e : Ending) (w' : World) : Prop := e = .returned (.bool b) ∧ MoX M w w' ∧ MOK D X KS M w'
structure NB (w : World) (c0 c1 : Obj) (W : World) : Prop where
  low : Below w.heap.size w W
  b0 : W.heap[w.heap.size]? = some c0
  b1 : W.heap[w.heap.size + 1]? = some c1
theorem NB.start (w : World) (c0 c1 : Obj) : NB w c0 c1 ((w.alloc c0).alloc c1) := ⟨two_below w _ _, (Below.heap_alloc (w.alloc c0) _ w.heap.size (by simp)).trans (heap_alloc_new w c0), heap_two w _ _⟩
theorem NB.next {w W W' : World} {c0 c1 : Obj} (h : NB w c0 c1 W) (hb : Below W.heap.size W W') : NB w c0 c1 W' :=
  ⟨h.low.trans (hb.mono h.low.size), (hb.block _ (Array.getElem?_eq_some_iff.1 h.b0).1).trans h.b0, (hb.block _ (Array.getElem?_eq_some_iff.1 h.b1).1).trans h.b1⟩
theorem par_tn {w : World} {P : Nat → Prop} {l : List VarT} {A : Option Addr} (h : RowT w P (rowOf encVar l) A) : ∀ x, x ∈ l → x.tn.size ≤ 9223372036854775807 := fun x hx => by
  obtain ⟨q, hq⟩ := List.mem_iff_getElem?.1 hx
  obtain ⟨_, _, _, _, _, _, _, _, _, _, h2⟩ := var_at h hq
  exact h2
theorem str_rowP {w : World} {P : Nat → Prop} (hP : ∀ b, P b → b < w.heap.size) {l : List ByteArray} {A : Option Addr} (h : RowT w P (rowOf encStr l) A) : Blk.StrsAt w w.heap.size A l.length l :=
  str_row (RowT.keep (fun b hb => ⟨hP b hb, rfl⟩) _ _ h)
set_option maxRecDepth 100000 in
set_option maxHeartbeats 8000000 in
theorem named_any (S : SchT) (n : ByteArray) (v : VT) (c0 c1 c2 : Value) (A3 A4 : Option Addr) (k3 k4 : Nat) (w : World) (B M : Nat) (X : Nat → Prop) (KS : List ByteArray) (hB : B ≤ M) (hX : ∀ b, X b → b < w.heap.size) (hXM : X M) (hXB : ∀ b, b < B → ¬ X b) (hK : n ∈ KS) (hKS : KS.length ≤ maxLen) (hn : n.size ≤ maxLen) (hz : SlimS S) (hvz : v.ms.len * 120 ≤ 140737488355328)
    (hS : TS w (fun b => b < B) (encSch S) [c0, c1, c2]) (hV : TS w (fun b => b < B) (encV v) [.int .i64 v.kd, .int .i64 v.nn, .string v.ss, .slice A3 v.ls.len k3, .slice A4 v.ms.len k4]) (hO : MOK S.defs X KS M w) :
    Calls Tryz.prog 52 #[.agg #[c0, c1, c2, .map (some M)], .string n, .agg #[.int .i64 v.kd, .int .i64 v.nn, .string v.ss, .slice A3 v.ls.len k3, .slice A4 v.ms.len k4]] w (BoolC (namedB S.defs n v) S.defs X KS M w) := by
  have hMl := hO.lt
  have hBw : B ≤ w.heap.size := by omega
  have F := Lib.hid (fun (wx : World) (hb : Below w.heap.size w wx) => cfind_any S n c0 c1 c2 wx B M X KS hB (fun b h => Nat.lt_of_lt_of_le (hX b h) hb.size) hXM hXB hK hKS hn hz (TS.low (hb.mono hBw) hS) (hO.low hb))
  obtain ⟨A, k, e, _⟩ := sch_cells hS
  injection e with e0 e
  injection e with e1 e
  injection e with e2 e
  subst e0 e1 e2
  obtain ⟨E3, j3, E4, j4, e, hss, ⟨hll, hL⟩, hml, hM⟩ := encv_cells hV
  simp only [List.cons.injEq, Value.slice.injEq, and_true, true_and] at e
  obtain ⟨⟨rfl, rfl⟩, rfl, rfl⟩ := e
  have HM := Lib.hid hM
  have HO := Lib.hid hO
  have HVZ := Lib.hid hvz
  have HXX := Lib.hid (And.intro hX (And.intro hXM hXB))
  have N0 := Lib.hid (NB.start w (.cells #[.slice A S.defs.length k, .string S.query, .string S.mutation, .map (some M)] 57) (.cells #[.int .i64 v.kd, .int .i64 v.nn, .string v.ss, .slice A3 v.ls.len k3, .slice A4 v.ms.len k4] 30))
  obtain ⟨r, hr⟩ : ∃ r, namedB S.defs n v = r := ⟨_, rfl⟩
  rw [hr]
  have he := hr.symm
  unfold namedB at he
  have HE := Lib.hid he
  clear he hr
  clear hS hz hV hO hL hll hM hX hXM hXB hK hKS hn hvz
  obtain ⟨t0, h0⟩ : ∃ b, (n.toList == [73, 110, 116]) = b := ⟨_, rfl⟩
  obtain ⟨t1, h1⟩ : ∃ b, (n.toList == [83, 116, 114, 105, 110, 103]) = b := ⟨_, rfl⟩
  obtain ⟨t2, h2⟩ : ∃ b, (n.toList == [66, 111, 111, 108, 101, 97, 110]) = b := ⟨_, rfl⟩
  obtain ⟨t3, h3⟩ : ∃ b, (n.toList == [73, 68]) = b := ⟨_, rfl⟩
  rw [h0, h1, h2, h3] at HE
  cases t0
  case true =>
    rw [if_pos (by simp)] at HE
    obtain ⟨b1, g1⟩ : ∃ b, (v.kd == 2) = b := ⟨_, rfl⟩
    obtain ⟨b2, g2⟩ : ∃ b, decide (-2147483648 ≤ v.nn) = b := ⟨_, rfl⟩
    obtain ⟨b3, g3⟩ : ∃ b, decide (v.nn ≤ 2147483647) = b := ⟨_, rfl⟩
    rw [g1, g2, g3] at HE
    cases b1
    case false =>
      go_enter Tryz.func52, Tryz.ntmps52
      go_upto_region 1 with fail
      generalize (w.alloc (.cells #[.slice A S.defs.length k, .string S.query, .string S.mutation, .map (some M)] 57)).alloc (.cells #[.int .i64 v.kd, .int .i64 v.nn, .string v.ss, .slice A3 v.ls.len k3, .slice A4 v.ms.len k4] 30) = w1 at N0 ⊢
      obtain ⟨y0, y1, y2, y3, y4⟩ := five_at N0.out.b1
      go_wp2_with fail
      go_ret
      exact ⟨by rw [HE.out]; rfl, MoX.of_below N0.out.low, HO.out.low N0.out.low⟩
    case true =>
      cases b2
      case false =>
        have g2' : ¬ (-2147483648 ≤ v.nn) := of_decide_eq_false g2
        go_enter Tryz.func52, Tryz.ntmps52
        go_upto_region 1 with fail
        generalize (w.alloc (.cells #[.slice A S.defs.length k, .string S.query, .string S.mutation, .map (some M)] 57)).alloc (.cells #[.int .i64 v.kd, .int .i64 v.nn, .string v.ss, .slice A3 v.ls.len k3, .slice A4 v.ms.len k4] 30) = w1 at N0 ⊢
        obtain ⟨y0, y1, y2, y3, y4⟩ := five_at N0.out.b1
        go_wp2_with fail
        go_ret
        exact ⟨by rw [HE.out]; rfl, MoX.of_below N0.out.low, HO.out.low N0.out.low⟩
      case true =>
        have g2' : -2147483648 ≤ v.nn := of_decide_eq_true g2
        cases b3
        case false =>
          have g3' : ¬ (v.nn ≤ 2147483647) := of_decide_eq_false g3
          go_enter Tryz.func52, Tryz.ntmps52
          go_upto_region 1 with fail
          generalize (w.alloc (.cells #[.slice A S.defs.length k, .string S.query, .string S.mutation, .map (some M)] 57)).alloc (.cells #[.int .i64 v.kd, .int .i64 v.nn, .string v.ss, .slice A3 v.ls.len k3, .slice A4 v.ms.len k4] 30) = w1 at N0 ⊢
          obtain ⟨y0, y1, y2, y3, y4⟩ := five_at N0.out.b1
          go_wp2_with fail
          go_ret
          exact ⟨by rw [HE.out]; rfl, MoX.of_below N0.out.low, HO.out.low N0.out.low⟩
        case true =>
          have g3' : v.nn ≤ 2147483647 := of_decide_eq_true g3
          go_enter Tryz.func52, Tryz.ntmps52
          go_upto_region 1 with fail
          generalize (w.alloc (.cells #[.slice A S.defs.length k, .string S.query, .string S.mutation, .map (some M)] 57)).alloc (.cells #[.int .i64 v.kd, .int .i64 v.nn, .string v.ss, .slice A3 v.ls.len k3, .slice A4 v.ms.len k4] 30) = w1 at N0 ⊢
          obtain ⟨y0, y1, y2, y3, y4⟩ := five_at N0.out.b1
          go_wp2_with fail
          go_ret
          exact ⟨by rw [HE.out]; rfl, MoX.of_below N0.out.low, HO.out.low N0.out.low⟩
  rw [if_neg (by simp)] at HE
  cases t1
  case true =>
    rw [if_pos (by simp)] at HE
    go_enter Tryz.func52, Tryz.ntmps52
    go_upto_region 1 with fail
    generalize (w.alloc (.cells #[.slice A S.defs.length k, .string S.query, .string S.mutation, .map (some M)] 57)).alloc (.cells #[.int .i64 v.kd, .int .i64 v.nn, .string v.ss, .slice A3 v.ls.len k3, .slice A4 v.ms.len k4] 30) = w1 at N0 ⊢
    obtain ⟨y0, y1, y2, y3, y4⟩ := five_at N0.out.b1
    go_wp2_with fail
    go_ret
    exact ⟨by rw [HE.out]; rfl, MoX.of_below N0.out.low, HO.out.low N0.out.low⟩
  rw [if_neg (by simp)] at HE
  cases t2
  case true =>
    rw [if_pos (by simp)] at HE
    go_enter Tryz.func52, Tryz.ntmps52
    go_upto_region 1 with fail
    generalize (w.alloc (.cells #[.slice A S.defs.length k, .string S.query, .string S.mutation, .map (some M)] 57)).alloc (.cells #[.int .i64 v.kd, .int .i64 v.nn, .string v.ss, .slice A3 v.ls.len k3, .slice A4 v.ms.len k4] 30) = w1 at N0 ⊢
    obtain ⟨y0, y1, y2, y3, y4⟩ := five_at N0.out.b1
    go_wp2_with fail
    go_ret
    exact ⟨by rw [HE.out]; rfl, MoX.of_below N0.out.low, HO.out.low N0.out.low⟩
  rw [if_neg (by simp)] at HE
  cases t3
  case true =>
    rw [if_pos (by simp)] at HE
    obtain ⟨b1, g1⟩ : ∃ b, (v.kd == 4) = b := ⟨_, rfl⟩
    rw [g1] at HE
    cases b1
    case false =>
      go_enter Tryz.func52, Tryz.ntmps52
      go_upto_region 1 with fail
      generalize (w.alloc (.cells #[.slice A S.defs.length k, .string S.query, .string S.mutation, .map (some M)] 57)).alloc (.cells #[.int .i64 v.kd, .int .i64 v.nn, .string v.ss, .slice A3 v.ls.len k3, .slice A4 v.ms.len k4] 30) = w1 at N0 ⊢
      obtain ⟨y0, y1, y2, y3, y4⟩ := five_at N0.out.b1
      go_wp2_with fail
      go_ret
      exact ⟨by rw [HE.out]; rfl, MoX.of_below N0.out.low, HO.out.low N0.out.low⟩
    case true =>
      go_enter Tryz.func52, Tryz.ntmps52
      go_upto_region 1 with fail
      generalize (w.alloc (.cells #[.slice A S.defs.length k, .string S.query, .string S.mutation, .map (some M)] 57)).alloc (.cells #[.int .i64 v.kd, .int .i64 v.nn, .string v.ss, .slice A3 v.ls.len k3, .slice A4 v.ms.len k4] 30) = w1 at N0 ⊢
      obtain ⟨y0, y1, y2, y3, y4⟩ := five_at N0.out.b1
      go_wp2_with fail
      go_ret
      exact ⟨by rw [HE.out]; rfl, MoX.of_below N0.out.low, HO.out.low N0.out.low⟩
  rw [if_neg (by simp)] at HE
  generalize hd : (findD S.defs n).1 = d at HE
  have FF := Lib.hid (fun (wx : World) (hb : Below w.heap.size w wx) => F.out wx hb)
  unfold FoundC at FF
  rw [hd] at FF
  clear F
  go_enter Tryz.func52, Tryz.ntmps52
  go_upto_region 1 with fail
  generalize (w.alloc (.cells #[.slice A S.defs.length k, .string S.query, .string S.mutation, .map (some M)] 57)).alloc (.cells #[.int .i64 v.kd, .int .i64 v.nn, .string v.ss, .slice A3 v.ls.len k3, .slice A4 v.ms.len k4] 30) = w1 at N0 ⊢
  obtain ⟨y0, y1, y2, y3, y4⟩ := five_at N0.out.b1
  obtain ⟨x0, x1, x2, x3⟩ := four_cells N0.out.b0
  go_wp2_with fail
  refine (FF.out _ N0.out.low).mono ?_
  rintro e w2 ⟨d0, d1, d2, d3, d4, d5, rfl, hT, hmo, hok⟩
  obtain ⟨Df, q0, Dx, q1, Dp, q2, Dm, q3, e, _, _, _, ⟨lp, hp⟩, lm, hm⟩ := defn_cells hT
  simp only [List.cons.injEq, and_true] at e
  obtain ⟨rfl, rfl, rfl, rfl, rfl, rfl⟩ := e
  have hw1 := N0.out.low.size
  have hlt1 := (Array.getElem?_eq_some_iff.1 N0.out.b1).1
  have Y2 := (hmo.block (w.heap.size + 1) hlt1 (by omega)).trans N0.out.b1
  have HP := Lib.hid hp
  have HMM := Lib.hid hm
  have HLL := Lib.hid (And.intro lp lm)
  have M2 := Lib.hid ((MoX.of_below N0.out.low).trans hmo)
  have O2 := Lib.hid hok
  clear hT hp hm hmo hok FF x0 x1 x2 x3 y0 y1 y2 y3 y4 lp lm
  go_upto_region 11 with fail
  have B3 := Lib.hid (dbelow_new w2 (.cells #[.int .i64 d.kind, .string d.name, .slice Df d.faces.length q0, .slice Dx d.fields.length q1, .slice Dp d.parts.length q2, .slice Dm d.params.length q3] 65))
  have Y3 := (Below.heap_alloc w2 (.cells #[.int .i64 d.kind, .string d.name, .slice Df d.faces.length q0, .slice Dx d.fields.length q1, .slice Dp d.parts.length q2, .slice Dm d.params.length q3] 65) (w.heap.size + 1) (Array.getElem?_eq_some_iff.1 Y2).1).trans Y2
  have Z3 := heap_alloc_new w2 (.cells #[.int .i64 d.kind, .string d.name, .slice Df d.faces.length q0, .slice Dx d.fields.length q1, .slice Dp d.parts.length q2, .slice Dm d.params.length q3] 65)
  generalize w2.alloc (.cells #[.int .i64 d.kind, .string d.name, .slice Df d.faces.length q0, .slice Dx d.fields.length q1, .slice Dp d.parts.length q2, .slice Dm d.params.length q3] 65) = w3 at B3 Y3 Z3 ⊢
  have P3 := Lib.hid (fun (wx : World) (hb : Below w3.heap.size w3 wx) => RowT.keep (P' := fun b => b < w2.heap.size) (fun b h => ⟨h.1, (hb.block b (Nat.lt_of_lt_of_le h.1 B3.out.size)).trans (B3.out.block b h.1)⟩) _ _ HP.out)
  have Q3 := Lib.hid (fun (wx : World) (hb : Below w3.heap.size w3 wx) => RowT.keep (P' := fun b => b < w2.heap.size) (fun b h => ⟨h.1, (hb.block b (Nat.lt_of_lt_of_le h.1 B3.out.size)).trans (B3.out.block b h.1)⟩) _ _ HMM.out)
  have hs2 := M2.out.size
  have V3 := Lib.hid (fun (wx : World) (hb : Below w3.heap.size w3 wx) => RowT.below ((M2.out.below hB hBw).trans ((B3.out.trans (hb.mono B3.out.size)).mono (Nat.le_trans hBw hs2))) HM.out)
  have M3 := Lib.hid (M2.out.trans (MoX.of_below B3.out))
  have O3 := Lib.hid (O2.out.low B3.out)
  have hgw := B3.out.size
  generalize w2.heap.size = g2 at *
  obtain ⟨⟨z0, z1, z2, z3, z4, z5⟩, _⟩ := six_cells Z3
  obtain ⟨y0, y1, y2, y3, y4⟩ := five_at Y3
  obtain ⟨e4, h4⟩ : ∃ b, (d.kind == 4) = b := ⟨_, rfl⟩
  obtain ⟨e5, h5⟩ : ∃ b, (d.kind == 5) = b := ⟨_, rfl⟩
  rw [h4, h5] at HE
  cases e4
  case true =>
    rw [if_pos (by simp)] at HE
    clear h5
    obtain ⟨b1, g1⟩ : ∃ b, (v.kd == 5) = b := ⟨_, rfl⟩
    rw [g1] at HE
    cases b1
    case false =>
      go_wp2_with fail
      go_ret
      exact ⟨by rw [HE.out]; rfl, M3.out, O3.out⟩
    case true =>
      have CT := Lib.hid (contains_s Dp d.parts.length q2 d.parts v.ss w3 HLL.out.1 (str_rowP (fun b h => Nat.lt_of_lt_of_le h hgw) (P3.out _ (Below.refl _ _))))
      generalize hasN d.parts v.ss = hb at CT HE
      go_wp2_with fail
      refine CT.out.mono ?_
      rintro e w4 ⟨rfl, hb4⟩
      have B4 := Lib.hid hb4
      clear hb4 CT z0 z1 z2 z3 z4 z5 y0 y1 y2 y3 y4
      go_wp2_with fail
      go_ret
      exact ⟨by rw [HE.out]; rfl, M3.out.trans (MoX.of_below B4.out), O3.out.low B4.out⟩
  rw [if_neg (by simp)] at HE
  cases e5
  case false =>
    rw [if_neg (by simp)] at HE
    go_wp2_with fail
    go_ret
    exact ⟨by rw [HE.out]; rfl, M3.out, O3.out⟩
  case true =>
    rw [if_pos (by simp)] at HE
    obtain ⟨b1, g1⟩ : ∃ b, (v.kd == 7) = b := ⟨_, rfl⟩
    rw [g1] at HE
    cases b1
    case false =>
      go_wp2_with fail
      go_ret
      exact ⟨by rw [HE.out]; rfl, M3.out, O3.out⟩
    case true =>
      have hBs : B ≤ w3.heap.size := Nat.le_trans hBw (Nat.le_trans hs2 hgw)
      have hml2 : v.ms.list.length = v.ms.len := VM.list_len _
      have ON := Lib.hid (lonce_any v.ms.list A4 k4 w3 B hBs (by have := HVZ.out; rw [hml2]; unfold maxLen; omega) (by rw [← encM_list]; exact V3.out _ (Below.refl _ _)))
      have KN := Lib.hid (fun (wx : World) (hb : Below w3.heap.size w3 wx) => known_any d.params Dm q3 v.ms.list A4 k4 wx B (fun b => b < g2) (Nat.le_trans hBs hb.size) (fun b h => Nat.lt_of_lt_of_le h (Nat.le_trans hgw hb.size)) HLL.out.2 (by rw [hml2]; exact hml) (Q3.out _ hb) (by rw [← encM_list]; exact V3.out _ hb))
      have CP := Lib.hid (fun (wx : World) (hb : Below w3.heap.size w3 wx) => complete_any d.params Dm q3 v.ms A4 k4 wx B (fun b => b < g2) (Nat.le_trans hBs hb.size) (fun b h => Nat.lt_of_lt_of_le h (Nat.le_trans hgw hb.size)) HLL.out.2 hml (par_tn HMM.out) (Q3.out _ hb) (mat_of (V3.out _ hb)))
      rw [hml2] at ON KN
      generalize onceB v.ms.list = o1 at ON HE
      generalize knownB d.params v.ms.list = o2 at KN HE
      generalize compB v.ms d.params = o3 at CP HE
      clear hml2
      go_wp2_with fail
      refine ON.out.mono ?_
      rintro e w4 ⟨rfl, hb4⟩
      have B4 := Lib.hid hb4
      have Z4 := (hb4.block g2 (Array.getElem?_eq_some_iff.1 Z3).1).trans Z3
      have Y4 := (hb4.block (w.heap.size + 1) (Array.getElem?_eq_some_iff.1 Y3).1).trans Y3
      clear hb4 ON z0 z1 z2 z3 z4 z5 y0 y1 y2 y3 y4 Z3 Y3
      obtain ⟨⟨z0, z1, z2, z3, z4, z5⟩, _⟩ := six_cells Z4
      obtain ⟨y0, y1, y2, y3, y4⟩ := five_at Y4
      cases o1 with
      | false =>
        go_wp2_with fail
        go_ret
        exact ⟨by rw [HE.out]; rfl, M3.out.trans (MoX.of_below B4.out), O3.out.low B4.out⟩
      | true =>
        go_wp2_with fail
        refine (KN.out _ B4.out).mono ?_
        rintro e w5 ⟨rfl, hb5⟩
        have B5 := Lib.hid (B4.out.trans (hb5.mono B4.out.size))
        have Z5 := (hb5.block g2 (Array.getElem?_eq_some_iff.1 Z4).1).trans Z4
        have Y5 := (hb5.block (w.heap.size + 1) (Array.getElem?_eq_some_iff.1 Y4).1).trans Y4
        clear hb5 KN z0 z1 z2 z3 z4 z5 y0 y1 y2 y3 y4 Z4 Y4
        obtain ⟨⟨z0, z1, z2, z3, z4, z5⟩, _⟩ := six_cells Z5
        obtain ⟨y0, y1, y2, y3, y4⟩ := five_at Y5
        cases o2 with
        | false =>
          go_wp2_with fail
          go_ret
          exact ⟨by rw [HE.out]; rfl, M3.out.trans (MoX.of_below B5.out), O3.out.low B5.out⟩
        | true =>
          go_wp2_with fail
          refine (CP.out _ B5.out).mono ?_
          rintro e w6 ⟨rfl, hb6⟩
          have B6 := Lib.hid (B5.out.trans (hb6.mono B5.out.size))
          clear hb6 CP z0 z1 z2 z3 z4 z5 y0 y1 y2 y3 y4 Z5 Y5
          go_wp2_with fail
          go_ret
          exact ⟨by rw [HE.out]; rfl, M3.out.trans (MoX.of_below B6.out), O3.out.low B6.out⟩
end Go.Proofs.YtcfdfgbobnocnaaGreatDoor
