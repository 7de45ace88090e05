/- literal.Right. -/
import Derived.Test.YtcfdfgbobnocnaaGreatDoorVNamed
import Derived.Test.YtcfdfgbobnocnaaGreatDoorLtFits
namespace Go.Proofs.YtcfdfgbobnocnaaGreatDoor
open Go.RowKit
attribute [local go_sem] Oper.semAt_some

theorem ts_vat {w : World} {B : Nat} {v : VT} {c0 c1 c2 c3 c4 : Value} (h : TS w (fun b => b < B) (encV v) [c0, c1, c2, c3, c4]) : VAt w B v c0 c1 c2 c3 c4 := by
  obtain ⟨d0, d1, d2, d3, d4, e, h1⟩ := ts_vp v _ h
  cases e
  exact VP.at (fun _ h => h) v _ _ _ _ _ h1
def R4 (W : World) (g0 g1 g2 g3 : Nat) (cs ct cv : Array Value) : Prop := W.heap[g0]? = some (.cells cs 24 (0, 0)) ∧ W.heap[g1]? = some (.cells ct 26 (0, 0)) ∧ W.heap[g2]? = some (.cells cv 30 (0, 0)) ∧ W.heap[g3]? = some (.cells #[.bool false] 4 (0, 0))
theorem R4.next {W W' : World} {g0 g1 g2 g3 : Nat} {cs ct cv : Array Value} (h : R4 W g0 g1 g2 g3 cs ct cv) (hb : Below W.heap.size W W') : R4 W' g0 g1 g2 g3 cs ct cv := by
  obtain ⟨h0, h1, h2, h3⟩ := h
  exact ⟨(hb.block _ (Array.getElem?_eq_some_iff.1 h0).1).trans h0, (hb.block _ (Array.getElem?_eq_some_iff.1 h1).1).trans h1, (hb.block _ (Array.getElem?_eq_some_iff.1 h2).1).trans h2, (hb.block _ (Array.getElem?_eq_some_iff.1 h3).1).trans h3⟩
theorem R4.start (w : World) (cs ct cv : Array Value) : R4 ((((w.alloc (.cells cs 24)).alloc (.cells ct 26)).alloc (.cells cv 30)).alloc (.cells #[.bool false] 4)) w.heap.size (w.heap.size + 1) (w.heap.size + 1 + 1) (w.heap.size + 1 + 1 + 1) cs ct cv := by
  refine ⟨?_, ?_, ?_, ?_⟩
  · rw [Below.heap_alloc _ _ _ (by simp; omega), Below.heap_alloc _ _ _ (by simp; omega), Below.heap_alloc _ _ _ (by simp)]; exact heap_alloc_new _ _
  · rw [Below.heap_alloc _ _ _ (by simp), Below.heap_alloc _ _ _ (by simp)]; exact heap_two _ _ _
  · rw [Below.heap_alloc _ _ _ (by simp)]
    have := heap_two (w.alloc (.cells cs 24)) (.cells ct 26) (.cells cv 30)
    simpa using this
  · have := heap_two ((w.alloc (.cells cs 24)).alloc (.cells ct 26)) (.cells cv 30) (.cells #[.bool false] 4)
    simpa using this
theorem one_box {w : World} {g : Nat} {u : Value} {t : TypeId} (h : w.heap[g]? = some (.cells #[u] t (0, 0))) : w.cell? ⟨g, 0, none⟩ = some u ∧ w.frozen? ⟨g, 0, none⟩ = false := by
  simp [World.cell?, World.frozen?, h]
theorem five_box {w : World} {g : Nat} {c0 c1 c2 c3 c4 : Value} {t : TypeId} (h : w.heap[g]? = some (.cells #[c0, c1, c2, c3, c4] t (0, 0))) : w.cell? ⟨g, 0, none⟩ = some c0 ∧ w.cell? ⟨g, 1, none⟩ = some c1 ∧ w.cell? ⟨g, 2, none⟩ = some c2 ∧ w.cell? ⟨g, 3, none⟩ = some c3 ∧ w.cell? ⟨g, 4, none⟩ = some c4 := by
  simp [World.cell?, h]
theorem four_low (w : World) (a b c d : Obj) : Below w.heap.size w ((((w.alloc a).alloc b).alloc c).alloc d) := ((two_below w a b).alloc (by simp; omega) c).alloc (by simp; omega) d
theorem pl_ts' {w : World} {B : Nat} {n : ByteArray} {l m : Int} {hs : Bool} {v : VT} {c0 c1 c2 c3 c4 : Value} (hn : n.size ≤ 9223372036854775807) (h : TS w (fun b => b < B) (encV v) [c0, c1, c2, c3, c4]) : TS w (fun b => b < B) (encPl ⟨n, l, m, hs, v⟩) [.string n, .int .i64 l, .int .i64 m, .bool hs, c0, c1, c2, c3, c4] := by
  unfold encPl
  simp only [TS, TP]
  exact ⟨_, _, rfl, ⟨rfl, hn⟩, _, _, rfl, ⟨rfl, trivial⟩, _, _, rfl, ⟨rfl, trivial⟩, _, _, rfl, ⟨rfl, trivial⟩, h⟩
def rightL (D : List DefnT) (p : PlT) : Bool := fitV goodB p.v && (allP D p).all fun x => fitsB D x.tn x.tl x.tm x.v
set_option maxRecDepth 100000 in
set_option maxHeartbeats 8000000 in
theorem right_any (S : SchT) (n : ByteArray) (l m : Int) (v : VT) (c0 c1 c2 : Value) (A3 A4 : Option Addr) (k3 k4 : Nat) (w : World) (B : Nat) (hB : B ≤ w.heap.size) (hw : Laid5 w) (hz : SlimS S) (hvz : sizeV v ≤ 1100000)
    (XS : List PlT) (hXS : XS = allP S.defs ⟨n, l, m, false, v⟩) (KS : List ByteArray) (hKS : KS.length ≤ maxLen) (hsl : ∀ x, x ∈ XS → SlimP KS x) (hN : XS.length ≤ 1099511627776) (hnm : n.size ≤ 9223372036854775807)
    (hS : TS w (fun b => b < B) (encSch S) [c0, c1, c2]) (hV : TS w (fun b => b < B) (encV v) [.int .i64 v.kd, .int .i64 v.nn, .string v.ss, .slice A3 v.ls.len k3, .slice A4 v.ms.len k4]) :
    Calls Tryz.prog 13 #[.agg #[c0, c1, c2], .agg #[.string n, .int .i64 l, .int .i64 m], .agg #[.int .i64 v.kd, .int .i64 v.nn, .string v.ss, .slice A3 v.ls.len k3, .slice A4 v.ms.len k4]] w fun e w' => e = .returned (.bool (rightL S.defs ⟨n, l, m, false, v⟩)) ∧ Below w.heap.size w w' := by
  obtain ⟨A, k, e, _⟩ := sch_cells hS
  injection e with e0 e
  injection e with e1 e
  injection e with e2 e
  subst e0 e1 e2
  have GD := Lib.hid (fun (wx : World) (hb : Below w.heap.size w wx) => vgood_any v hvz _ _ _ _ _ wx B (Nat.le_trans hB hb.size) (ts_vat (TS.low (hb.mono hB) hV)) (hw.below hb))
  have HS := Lib.hid hS
  have HV := Lib.hid hV
  have HSL := Lib.hid hsl
  have HX := Lib.hid hXS
  have HZ := Lib.hid hz
  clear hw hS hV hsl hXS hz
  refine callsIn_wide.1 (callsIn_of_wp_marks (F := Fence.wide) (n := 3) Tryz.func13 rfl trivial ?_)
  simp only [Tryz.ntmps13, List.size_toArray, List.length_cons, List.length_nil, Nat.reduceAdd, Nat.reduceSub, Array.replicate_succ, Array.replicate_zero, List.push_toArray, List.append_toArray, List.nil_append, List.cons_append]
  refine wpIn_wide.2 ?_
  go_upto_region 1 with fail
  have R0 := Lib.hid (R4.start w #[.slice A S.defs.length k, .string S.query, .string S.mutation] #[.string n, .int .i64 l, .int .i64 m] #[.int .i64 v.kd, .int .i64 v.nn, .string v.ss, .slice A3 v.ls.len k3, .slice A4 v.ms.len k4])
  have B0 := Lib.hid (four_low w (.cells #[.slice A S.defs.length k, .string S.query, .string S.mutation] 24) (.cells #[.string n, .int .i64 l, .int .i64 m] 26) (.cells #[.int .i64 v.kd, .int .i64 v.nn, .string v.ss, .slice A3 v.ls.len k3, .slice A4 v.ms.len k4] 30) (.cells #[.bool false] 4))
  generalize (((w.alloc (.cells #[.slice A S.defs.length k, .string S.query, .string S.mutation] 24)).alloc (.cells #[.string n, .int .i64 l, .int .i64 m] 26)).alloc (.cells #[.int .i64 v.kd, .int .i64 v.nn, .string v.ss, .slice A3 v.ls.len k3, .slice A4 v.ms.len k4] 30)).alloc (.cells #[.bool false] 4) = w1 at R0 B0 ⊢
  generalize hg3 : w.heap.size + 1 + 1 + 1 = g3 at R0 ⊢
  generalize hg2 : w.heap.size + 1 + 1 = g2 at R0 ⊢
  generalize hg1 : w.heap.size + 1 = g1 at R0 ⊢
  have HG := Lib.hid (And.intro hg1 (And.intro hg2 hg3))
  clear hg1 hg2 hg3
  obtain ⟨x0, x1, x2, x3, x4⟩ := five_box R0.out.2.2.1
  go_wp2_with fail
  refine (GD.out _ B0.out).mono ?_
  rintro e w2 ⟨rfl, hb2⟩
  have R2 := Lib.hid (R0.out.next hb2)
  have R2K := Lib.hid R2.out.2.2.2
  have B2 := Lib.hid (B0.out.trans (hb2.mono B0.out.size))
  clear x0 x1 x2 x3 x4 R0 hb2 B0 GD
  obtain ⟨q0, q1⟩ := one_box R2.out.2.2.2
  obtain ⟨bg, hbg⟩ : ∃ b, fitV goodB v = b := ⟨_, rfl⟩
  rw [hbg]
  cases bg
  · go_wp2_with fail
    have hg := HG.out
    refine postM_ret (res_bool rfl rfl (World.cell?_setCell_same' _ _ _ (by rw [q0]; rfl))) rfl ⟨by unfold rightL; rw [hbg]; rfl, B2.out.setCell (p := ⟨g3, 0, none⟩) (by show _ ≤ g3; omega) _⟩
  obtain ⟨y0, y1, y2⟩ := three_cells R2.out.1
  have AK := Lib.hid (fun (wx : World) => ask_any A S.defs.length k S.query S.mutation wx)
  go_wp2_with fail
  refine (AK.out _).mono ?_
  rintro e w3 ⟨M, rfl, hb3, hM3, hO3⟩
  have R3 := Lib.hid (R2.out.next hb3)
  have B3 := Lib.hid (B2.out.trans (hb3.mono B2.out.size))
  have HM := Lib.hid hM3
  have HO := Lib.hid hO3
  clear q0 q1 y0 y1 y2 R2 hb3 B2 AK hM3 hO3
  go_upto_region 4 with fail
  have A4 := heap_alloc_new w3 (.cells #[.slice A S.defs.length k, .string S.query, .string S.mutation, .map (some M)] 57)
  have D4 := Lib.hid (dbelow_new w3 (.cells #[.slice A S.defs.length k, .string S.query, .string S.mutation, .map (some M)] 57))
  have Z4 : (w3.alloc (.cells #[.slice A S.defs.length k, .string S.query, .string S.mutation, .map (some M)] 57)).heap.size = w3.heap.size + 1 := by simp
  generalize w3.alloc (.cells #[.slice A S.defs.length k, .string S.query, .string S.mutation, .map (some M)] 57) = w4 at A4 D4 Z4 ⊢
  have R4' := Lib.hid (R3.out.next D4.out)
  have HZ4 := Lib.hid Z4
  have HA4 := Lib.hid A4
  obtain ⟨ga, hga⟩ : ∃ g, w3.heap.size = g := ⟨_, rfl⟩
  have HGA := Lib.hid hga
  rw [hga] at A4 ⊢
  clear hga Z4
  obtain ⟨x0, x1, x2, x3⟩ := four_cells A4
  obtain ⟨y0, y1, y2⟩ := three_cells R4'.out.2.1
  obtain ⟨z0, z1, z2, z3, z4⟩ := five_box R4'.out.2.2.1
  clear A4
  have PLC := Lib.hid (fun (wx : World) => places_any A A3 A4 S.defs.length k M S.query S.mutation n v.ss l m v.kd v.nn false v.ls.len k3 v.ms.len k4 wx)
  go_wp2_with fail
  refine (PLC.out _).mono ?_
  rintro e w5 ⟨rfl, hw5⟩
  have HW5 := Lib.hid hw5
  clear hw5 PLC x0 x1 x2 x3 y0 y1 y2 z0 z1 z2 z3 z4
  go_wp2_with fail
  have hsz5 : w5.heap.size = ga + 3 := by rw [HW5.out]; simp; have h1 := HZ4.out; have h2 := HGA.out; omega
  have L45 : Below w4.heap.size w4 w5 := by rw [HW5.out]; exact two_below _ _ _
  have S5 : w5.heap[w4.heap.size]? = some (.cells #[.slice A S.defs.length k, .string S.query, .string S.mutation, .map (some M)] 57 (0, 0)) := by rw [HW5.out, Below.heap_alloc _ _ _ (by simp)]; exact heap_alloc_new _ _
  have P5 : w5.heap[w4.heap.size + 1]? = some (.cells #[.string n, .int .i64 l, .int .i64 m, .bool false, .int .i64 v.kd, .int .i64 v.nn, .string v.ss, .slice A3 v.ls.len k3, .slice A4 v.ms.len k4] 61 (0, 0)) := by rw [HW5.out]; exact heap_two _ _ _
  have R5 := Lib.hid (R4'.out.next L45)
  have Q5 : w5.heap[ga]? = some (.cells #[.slice A S.defs.length k, .string S.query, .string S.mutation, .map (some M)] 57 (0, 0)) := by
    have h1 := HA4.out
    rw [HGA.out] at h1
    exact (L45.block ga (Array.getElem?_eq_some_iff.1 h1).1).trans h1
  have hga3 : w3.heap.size = ga := HGA.out
  have hsz4 : w4.heap.size = ga + 1 := by have := HZ4.out; omega
  have hg3lt : g3 < w2.heap.size ∧ w.heap.size ≤ g3 := ⟨(Array.getElem?_eq_some_iff.1 R2K.out).1, by have := HG.out; omega⟩
  have hMr : w2.heap.size ≤ M ∧ M < ga := ⟨HM.out, by have := (HO.out [] (fun _ => False) []).lt; omega⟩
  have LW := Lib.hid (B3.out.trans ((D4.out.mono B3.out.size).trans (L45.mono (by have := B3.out.size; omega))))
  have O5 := Lib.hid (fun (X : Nat → Prop) => ((HO.out S.defs X KS).low D4.out).low L45)
  rw [hsz4] at S5 P5 ⊢
  have HS5 := Lib.hid S5
  have HP5 := Lib.hid P5
  have HQ5 := Lib.hid Q5
  clear S5 P5 Q5 HW5 HA4 HZ4 HGA HM HO D4 R3 B3 R4' L45 hsz4 hga3 R2K
  have hBM : B ≤ M := by omega
  obtain ⟨b0, hb0⟩ : ∃ b, w5.heap.size + 2 = b := ⟨_, rfl⟩
  have hr3 := R5.out.2.2.2
  have TSC := Lib.hid (TS.low (LW.out.mono hB) HS.out)
  have TVV := Lib.hid (TS.low (LW.out.mono hB) HV.out)
  have IS0 : Hid (∀ pb sb W1, (pb = ga + 1 + 1 ∧ (sb = ga + 1 ∨ sb = ga)) → Below w5.heap.size w5 W1 → W1.heap.size = w5.heap.size + 2 → IE S KS M B pb sb (w5.heap.size + 2) (.slice A S.defs.length k) (.string S.query) (.string S.mutation) #[.string n, .int .i64 l, .int .i64 m, .bool false, .int .i64 v.kd, .int .i64 v.nn, .string v.ss, .slice A3 v.ls.len k3, .slice A4 v.ms.len k4] (fun b => b = w5.heap.size + 1, fun b => b < B) W1) := Lib.hid (by
    rintro pb sb W1 ⟨rfl, hsb⟩ hbl hsl1
    refine IE.start _ hBM (by omega) (by omega) (fun b hb => by subst hb; omega) (by omega) (by omega) ((O5.out _).low hbl) ((hbl.block _ (by omega)).trans HP5.out) ?_ (TS.low (hbl.mono (by omega)) TSC.out)
    rcases hsb with rfl | rfl
    · exact (hbl.block _ (by omega)).trans HS5.out
    · exact (hbl.block _ (by omega)).trans HQ5.out)
  refine (wpIn_wide (n := 3)).1 (wpIn_rangeFunc_z (F := Fence.wide) rfl (by decide) (gf := 45) (lb := #[.pointer (some ⟨ga + 1 + 1, 0, none⟩), .pointer (some ⟨ga + 1, 0, none⟩)]) rfl trivial (enters_of Tryz.func45 (by kernel_rfl) rfl)
    XS.length encP (LiesP XS B) (TZ S.defs KS M (w5.heap.size + 2)) (fun Z Z' A B => Z' = Z ∧ Below A.heap.size A B) (RZ S.defs KS M) (fun _ => rfl) ((fun b => b = w5.heap.size + 1), (fun b => b < B))
    (fun i Z W => IJ S KS M B (ga + 1 + 1) ga (w5.heap.size + 2) (w5.heap.size + 1) (.slice A S.defs.length k) (.string S.query) (.string S.mutation) #[.string n, .int .i64 l, .int .i64 m, .bool false, .int .i64 v.kd, .int .i64 v.nn, .string v.ss, .slice A3 v.ls.len k3, .slice A4 v.ms.len k4] Z W ∧ (∀ j x, j < i → XS[j]? = some x → fitsB S.defs x.tn x.tl x.tm x.v = true) ∧ W.heap[g3]? = some (.cells #[.bool false] 4 (0, 0)) ∧ Below w.heap.size w W ∧ ¬ Z.1 g3)
    (fun c i W => c = .ret ∧ W.cell? ⟨g3, 0, none⟩ = some (.bool false) ∧ Below w.heap.size w W ∧ ∃ x, XS[i]? = some x ∧ fitsB S.defs x.tn x.tl x.tm x.v = false)
    ?hTl ?hIT ?hIr ?hIxr ?hRc ?h0 ?hseq ?hround ?hdone ?hstop)
  case hTl =>
    intro Z Z' a b ht c o hc ho
    refine (ht.mo.block c (Array.getElem?_eq_some_iff.1 ho).1 ?_).trans ho
    rintro (e | e) <;> omega
  case hIT =>
    rintro i Z Z' a b ⟨h1, h2, h3, h4, h5⟩ ht
    refine ⟨h1.t ht, h2, (ht.mo.block g3 (Array.getElem?_eq_some_iff.1 h3).1 (by omega)).trans h3, ⟨ht.mo.os.trans h4.os, ht.mo.tape.trans h4.tape, ht.mo.output.trans h4.output, Nat.le_trans h4.size ht.mo.size, fun c hc => (ht.mo.block c (Nat.lt_of_lt_of_le hc h4.size) (by omega)).trans (h4.block c hc)⟩, by rw [ht.z]; exact h5⟩
  case hIr =>
    rintro i Z W o ⟨h1, h2, h3, h4, h5⟩ _
    exact ⟨h1.put (by omega) o, h2, (World.putObj_heap_other (by omega)).trans h3, low_put h4 (by omega) o, h5⟩
  case hIxr =>
    rintro c i W o ⟨h1, h2, h3, h4⟩ _
    exact ⟨h1, (World.cell?_of_block (a := ⟨g3, 0, none⟩) (World.putObj_heap_other (by show g3 ≠ _; omega))).trans h2, low_put h3 (by omega) o, h4⟩
  case hRc =>
    rintro i Z Z1 Z' W W1 W3 o o' ⟨h1, _⟩ ⟨rfl, hb⟩ _ hr
    exact h1.comp (by omega) hb hr
  case h0 =>
    intro W1 hb hs1
    exact ⟨⟨IS0.out _ _ W1 ⟨rfl, .inr rfl⟩ hb hs1, fun b h => .inl h, rfl⟩, fun j x hj => absurd hj (by omega), (hb.block g3 (by omega)).trans hr3, LW.out.trans (hb.mono LW.out.size), by show ¬ g3 = _; omega⟩
  case hseq =>
    intro W1 J Jx hb hs1 hJ hY hJ0
    have hTV1 := TS.low (hb.mono (by omega)) TVV.out
    exact iter_in 2 (by decide) S KS hKS HZ.out M B (ga + 1 + 1) (ga + 1) (.slice A S.defs.length k) (.string S.query) (.string S.mutation) ⟨n, l, m, false, v⟩ A3 A4 k3 k4 XS HX.out HSL.out hN (w5.heap.size + 2) (w5.heap.size + 1) J Jx hJ hY _ W1 hs1.symm hJ0 (IS0.out _ _ W1 ⟨rfl, .inl rfl⟩ hb hs1) (pl_ts' hnm hTV1)
  case hround =>
    rintro i x Z W hi ⟨h1, h2, h3, h4, h5⟩ ⟨y, hy, hT⟩ hlt
    obtain ⟨E3, j3, E4, j4, rfl, htn, hTv⟩ := pl_cells hT
    have f1 : M < w5.heap.size := by omega
    have f2 : g3 < w5.heap.size ∧ g3 < M := by omega
    have f3 : w.heap.size ≤ w5.heap.size ∧ B ≤ w5.heap.size ∧ w.heap.size ≤ g3 ∧ w.heap.size ≤ M := by omega
    clear hsz5 hMr hg3lt
    have e0 : ∀ z, (#[19].zip (encP z)) = #[(19, .agg z.toArray)] := fun z => by simp [encP]
    simp only [e0]
    gi_wp2
    have hb9 := dbelow_new W (.cells #[.string y.tn, .int .i64 y.tl, .int .i64 y.tm, .bool y.has, .int .i64 y.v.kd, .int .i64 y.v.nn, .string y.v.ss, .slice E3 y.v.ls.len j3, .slice E4 y.v.ms.len j4] 61)
    have i9 := heap_alloc_new W (.cells #[.string y.tn, .int .i64 y.tl, .int .i64 y.tm, .bool y.has, .int .i64 y.v.kd, .int .i64 y.v.nn, .string y.v.ss, .slice E3 y.v.ls.len j3, .slice E4 y.v.ms.len j4] 61)
    generalize W.alloc (.cells #[.string y.tn, .int .i64 y.tl, .int .i64 y.tm, .bool y.has, .int .i64 y.v.kd, .int .i64 y.v.nn, .string y.v.ss, .slice E3 y.v.ls.len j3, .slice E4 y.v.ms.len j4] 61) = V at hb9 i9 ⊢
    have hbW : w5.heap.size + 2 ≤ W.heap.size := h1.ie.hbase
    have hj := h1.below hb9
    have h3v := (hb9.block g3 (Array.getElem?_eq_some_iff.1 h3).1).trans h3
    have h4v := h4.trans (hb9.mono h4.size)
    refine ⟨Z, TZ.of_below h1.ie.ok.lt h1.ie.ok.ok.lt hb9, ⟨rfl, hb9⟩, ⟨hj, h2, h3v, h4v, h5⟩, fun o => ?_⟩
    have hp := hj.put (by omega) o
    have i9p := (World.putObj_heap_other (w := V) (r := w5.heap.size + 1) (o := o) (show W.heap.size ≠ w5.heap.size + 1 by omega)).trans i9
    have h3p := (World.putObj_heap_other (w := V) (r := w5.heap.size + 1) (o := o) (show g3 ≠ w5.heap.size + 1 by omega)).trans h3v
    have h4p := low_put h4v (d := w5.heap.size + 1) (by omega) o
    have hTp : TS (V.putObj (w5.heap.size + 1) o) (fun b => b < B) (encV y.v) [.int .i64 y.v.kd, .int .i64 y.v.nn, .string y.v.ss, .slice E3 y.v.ls.len j3, .slice E4 y.v.ms.len j4] := TS.keep (fun b hb => ⟨hb, (World.putObj_heap_other (by omega)).trans (hb9.block b (by omega))⟩) _ _ hTv
    generalize V.putObj (w5.heap.size + 1) o = V1 at hp i9p h3p h4p hTp ⊢
    generalize W.heap.size = gb at i9p ⊢
    have hsy := HSL.out y (List.mem_of_getElem? hy)
    have FC := Lib.hid (fits_any S y.tn y.tl y.tm y.has y.v (.slice A S.defs.length k) (.string S.query) (.string S.mutation) E3 E4 j3 j4 V1 B M (XU Z.2 V1) KS hBM (fun b h => h.1) ⟨hp.ie.ok.ok.lt, hp.ie.ok.no⟩ (fun b hb h => h.2 (hp.ie.uB b hb)) hsy.1 hKS (by unfold maxLen; exact htn) HZ.out hsy.2.1 hsy.2.2 hp.ie.sch hTp hp.ie.ok.xu)
    have HP := Lib.hid hp
    have H2 := Lib.hid h2
    have HY := Lib.hid hy
    have H4 := Lib.hid h4p
    have H3 := Lib.hid h3p
    obtain ⟨x0, x1, x2, x3⟩ := four_cells hp.ie.sbox
    obtain ⟨⟨y0, y1, y2, y3, y4, y5, y6, y7, y8⟩, _⟩ := nine_cells i9p
    have hd1 : w5.heap.size + 1 < V1.heap.size := hp.ie.zlt _ hp.zd
    have hg31 : g3 < V1.heap.size := (Array.getElem?_eq_some_iff.1 h3p).1
    clear hp h2 hy h4p h3p hTp i9p hsy hj h3v h4v i9 hb9 h1 h3 h4 hTv hT
    obtain ⟨bf, hbf⟩ : ∃ b, fitsB S.defs y.tn y.tl y.tm y.v = b := ⟨_, rfl⟩
    rw [hbf] at FC
    cases bf
    · gi_wp2
      refine ⟨trivial, (CallsIn.inRound _ (callsIn_wide.2 FC.out)).mono ?_⟩
      rintro e V2 ⟨rfl, hm, ho⟩
      obtain ⟨q0, q1⟩ := one_box ((hm.block g3 hg31 (by omega)).trans H3.out)
      have HM := Lib.hid hm
      clear hm ho
      gi_wp2
      have hm := HM.out
      refine ⟨⟨?_, ?_⟩, rfl, World.cell?_setCell_same' _ _ _ (by rw [q0]; rfl), (MoX.low H4.out hm (by omega) (Nat.le_refl _)).setCell (p := ⟨g3, 0, none⟩) (by show _ ≤ g3; omega) _, y, HY.out, hbf⟩
      · exact (Below.heap_setCell _ _ _ _ (by show _ ≠ g3; omega)).trans (hm.block _ hd1 (by omega))
      · exact (Below.heap_setCell _ _ _ _ (by show _ ≠ g3; omega)).trans (hm.block _ (by omega) (by omega))
    · gi_wp2
      refine ⟨trivial, (CallsIn.inRound _ (callsIn_wide.2 FC.out)).mono ?_⟩
      rintro e V2 ⟨rfl, hm, ho⟩
      have HM := Lib.hid hm
      have HO := Lib.hid ho
      clear hm ho
      gi_wp2
      have hm := HM.out
      have ho := HO.out
      have hr := RZ.of_cache HP.out hm ho
      refine ⟨⟨hm.block _ hd1 (by omega), hm.block _ (by omega) (by omega)⟩, _, ⟨HP.out.r hr HP.out.zd, fun j x hj hx => ?_, (hm.block g3 hg31 (by omega)).trans H3.out, MoX.low H4.out hm (by omega) (Nat.le_refl _), h5⟩, hr⟩
      rcases Nat.lt_or_ge j i with hl | hl
      · exact H2.out j x hl hx
      · obtain rfl : j = i := by omega
        have e := HY.out
        rw [hx] at e
        obtain rfl := Option.some.inj e
        exact hbf
  case hdone =>
    rintro Z W ⟨h1, h2, h3, h4, h5⟩ hK
    obtain ⟨q0, q1⟩ := one_box h3
    go_wp2_with fail
    have hc := World.cell?_setCell_same' W ⟨g3, 0, none⟩ (.bool true) (by rw [q0]; rfl)
    refine postM_mark (D := w5.heap.size) rfl ((Below.heap_setCell _ _ _ _ (by show w5.heap.size ≠ g3; omega)).trans hK) (fun w' hb => res_bool rfl rfl ((World.cell?_of_block (a := ⟨g3, 0, none⟩) (hb g3 (by omega))).trans hc)) (fun w' e1 e2 e3 e4 hb => ⟨?_, ?_⟩)
    · unfold rightL
      rw [hbg, ← HX.out, List.all_eq_true.2 (fun x hx => by
        obtain ⟨j, hj⟩ := List.mem_iff_getElem?.1 hx
        exact h2 j x (List.getElem?_eq_some_iff.1 hj).1 hj)]
      rfl
    · have h6 := h4.setCell (p := ⟨g3, 0, none⟩) (by show _ ≤ g3; omega) (.bool true)
      exact ⟨e1.trans h6.os, e2.trans h6.tape, e3.trans h6.output, by rw [e4]; exact h6.size, fun b hb' => (hb b (by omega)).trans (h6.block b hb')⟩
  case hstop =>
    rintro c i W hi ⟨rfl, h3, h4, x, hx, hf⟩ hK
    refine wpIn_wide.2 ?_
    have q0 := h3
    go_wp2_with fail
    refine postM_mark (D := w5.heap.size) rfl hK (fun w' hb => res_bool rfl rfl ((World.cell?_of_block (a := ⟨g3, 0, none⟩) (hb g3 (by omega))).trans q0)) (fun w' e1 e2 e3 e4 hb => ⟨?_, ?_⟩)
    · have hr : rightL S.defs ⟨n, l, m, false, v⟩ = false := by
        unfold rightL
        rw [← HX.out, Bool.and_eq_false_iff]
        refine .inr (Bool.eq_false_iff.2 fun h => ?_)
        have := List.all_eq_true.1 h x (List.mem_of_getElem? hx)
        rw [hf] at this
        cases this
      rw [hr]
    · exact ⟨e1.trans h4.os, e2.trans h4.tape, e3.trans h4.output, by rw [e4]; exact h4.size, fun b hb' => (hb b (by omega)).trans (h4.block b hb')⟩
end Go.Proofs.YtcfdfgbobnocnaaGreatDoor
