/- dirs.areDefined, dirs.occurOnce. (gen_dirules.py wrote it.) -/
import Derived.Test.YtgihnhdknphhpaaDiWhole
import Derived.Test.YtgihnhdknphhpaaDiPar
import Derived.Test.YtgihnhdknphhpaaGrSpr
import Derived.WalkMore
namespace Go.Proofs.Ytgihnhdknphhpaa
open Go.RowKit
attribute [local go_sem] Oper.semAt_some

/-- All selections of a document. -/
def allS (D : DocT) : List SelT := gpreL (toSL (wholesL D))
def defX (x : SelT) : Bool := x.dirs.all fun d => isDir d.1
/-- Rule 12. -/
def defB (D : DocT) : Bool := (allS D).all defX
/-- Each name once, from the first on. -/
def onceN (seen : List ByteArray) : List ByteArray → Bool
  | [] => true
  | s :: t => !inN seen s && onceN (seen ++ [s]) t
def onceX (x : SelT) : Bool := onceN [] (x.dirs.map (·.1))
/-- Rule 14. -/
def onceB (D : DocT) : Bool := (allS D).all onceX
theorem gset_same {w : World} {g : Nat} {v : Value} {t : TypeId} (h : w.heap[g]? = some (.cells #[v] t (0, 0))) : ∀ b : Nat, (w.setCell ⟨g, 0, none⟩ v).heap[b]? = w.heap[b]? := by
  intro b
  by_cases hb : b = g
  · subst hb
    rw [gset_one h, h]
  · exact Below.heap_setCell _ _ _ _ (by show b ≠ g; exact hb)
theorem gset_still {w W : World} {g N : Nat} {v : Value} {t : TypeId} (hb : Below N w W) (h : W.heap[g]? = some (.cells #[v] t (0, 0))) : Below N w (W.setCell ⟨g, 0, none⟩ v) :=
  ⟨hb.os, hb.tape, hb.output, by simp [World.setCell]; exact hb.size, fun b hl => (gset_same h b).trans (hb.block b hl)⟩
theorem dir_cells {w : World} {B : Nat} {l : List DirT} {A : Option Addr} {q : Nat} {y : DirT} (h : RowT w (fun b => b < B) (rowOf encD l) A) (hx : l[q]? = some y) :
    ∃ b p A2 k2, A = some ⟨b, p, none⟩ ∧ b < B ∧ w.cell? ⟨b, p + q * 2, none⟩ = some (.string y.1) ∧ w.cell? ⟨b, p + q * 2 + 1, none⟩ = some (.slice A2 y.2.len k2) ∧ y.1.size ≤ 9223372036854775807 := by
  obtain ⟨b, p, cs, e, hb, hc, hT⟩ := rowOf_at 2 (fun _ => rfl) h hx
  unfold encD at hT
  simp only [TS, TP] at hT
  obtain ⟨_, zs, rfl, ⟨rfl, hs⟩, _, zs2, rfl, ⟨Aa, ka, rfl, _, hRa⟩, rfl⟩ := hT
  rw [encM_len] at hc
  exact ⟨b, p, Aa, ka, e, hb, hc 0 _ rfl, hc 1 _ rfl, hs⟩
theorem gres_bool {fn : Func} {a : Act} {W : World} {u : Nat} {b : Bool} (hf : fn.results = #[.tmp u]) (h : a.tmps.getD u undef = .bool b) : (results fn a.tmps).run Try.prog W = .ok (.bool b) W := by
  have h' : a.tmps[u]?.getD undef = .bool b := by rw [← h]; simp
  simp [results, hf, h', go_sem]
/-- What the range keeps: the variable's box at g, blocks below n. -/
structure DfI (w : World) (n g m : Nat) (Z : Nat → Prop) (W : World) : Prop where
  ie : IG m (m + 3) Z W
  zd : ∀ b, Z b ↔ b = m + 2
  low : Below n w W
  box : W.heap[g]? = some (.cells #[.bool true] 4 (0, 0))
theorem DfI.t {w W W' : World} {n g m : Nat} {Z Z' : Nat → Prop} (h : DfI w n g m Z W) (hg : n ≤ m) (hgm : g < m) (ht : TG (m + 3) Z Z' W W') : DfI w n g m Z' W' := by
  obtain ⟨rfl, hm⟩ := ht
  have hb := h.ie.hb
  have hk : ∀ b, b < m + 3 → W'.heap[b]? = W.heap[b]? := fun b hl => hm.block b (by omega) (by omega)
  exact ⟨h.ie.t ⟨rfl, hm⟩, h.zd, ⟨hm.os.trans h.low.os, hm.tape.trans h.low.tape, hm.output.trans h.low.output, Nat.le_trans h.low.size hm.size, fun b hl => (hk b (by omega)).trans (h.low.block b hl)⟩, (hk _ (by omega)).trans h.box⟩
theorem DfI.put {w W : World} {n g m : Nat} {Z : Nat → Prop} (h : DfI w n g m Z W) (hg : n ≤ m) (hgm : g < m) (o : Obj) : DfI w n g m Z (W.putObj (m + 2) o) := by
  have hb := h.ie.hb
  have hk : ∀ b, b ≠ m + 2 → (W.putObj (m + 2) o).heap[b]? = W.heap[b]? := fun b hl => World.putObj_heap_other hl
  exact ⟨⟨fun b hz => by simp; exact h.ie.zlt b hz, h.ie.zB, h.ie.hB, by simp; exact hb⟩, h.zd, glow_put h.low (by omega) o, (hk _ (by omega)).trans h.box⟩
/-- A round that only adds blocks. -/
theorem DfI.round {w W W' : World} {n g m : Nat} {Z : Nat → Prop} (h : DfI w n g m Z W) (hg : n ≤ m) (hgm : g < m) (hb : Below W.heap.size W W') : DfI w n g m Z W' ∧ RG Z Z W W' :=
  ⟨h.t hg hgm (.of_below hb), .of_below hb, fun _ _ hz => hz, fun b hz => Nat.lt_of_lt_of_le (h.ie.zlt b hz) hb.size⟩
theorem RG.put2 {W W1 W3 : World} {Z Z' : Nat → Prop} {o o' : Obj} {d : Nat} (hd : Z d) (hb : Below W.heap.size W W1) (hr : RG Z Z' (W1.putObj d o) W3) : RG Z Z' W (W3.putObj d o') := by
  have hs := hb.size
  have hs3 := hr.mo.size
  rw [World.putObj_size] at hs3
  exact ⟨((MoG.of_below hb).trans (MoG.put hd o)).trans (hr.mo.trans (MoG.put hd o')), fun b hlt hz => hr.old b (by simp; omega) hz, fun b hz => by simp; exact hr.lt b hz⟩
theorem two_start (w : World) (c0 c1 : Value) (o : Obj) : ∀ W, W = (w.alloc (.cells #[c0, c1] 49)).alloc o → W.heap.size = w.heap.size + 2 ∧ Below w.heap.size w W ∧ W.heap[w.heap.size]? = some (.cells #[c0, c1] 49 (0, 0)) ∧ W.heap[w.heap.size + 1]? = some o := by
  rintro W rfl
  have h := heap_alloc_new (w.alloc (.cells #[c0, c1] 49)) o
  rw [World.size_alloc] at h
  exact ⟨by simp, ((Below.refl _ _).alloc (Nat.le_refl _) _).alloc (by simp) _, by rw [Below.heap_alloc _ _ _ (by simp)]; exact heap_alloc_new _ _, h⟩
theorem gpreL_len : ∀ l : List SelT, l.length ≤ (gpreL (toSL l)).length
  | [] => by simp
  | x :: t => by
    have h := gpreL_len t
    rw [toSL, gpreL_cons, List.length_cons, List.length_cons, List.length_append]
    omega
theorem once_at {l : List ByteArray} {z : Nat} {s : ByteArray} (h : l[z]? = some s) : onceN (l.take z) (l.drop z) = (!inN (l.take z) s && onceN (l.take z ++ [s]) (l.drop (z + 1))) := by
  have hz : z < l.length := (List.getElem?_eq_some_iff.1 h).1
  have e : l[z] = s := (List.getElem?_eq_some_iff.1 h).2
  rw [List.drop_eq_getElem_cons hz, e, onceN]
set_option maxRecDepth 100000 in
set_option maxHeartbeats 8000000 in
theorem areDefined_any (D : DocT) (c0 c1 : Value) (w : World) (B : Nat) (hB : B ≤ w.heap.size) (hD : DocAt w B D c0 c1) (hN : (allS D).length ≤ 1099511627776) :
    Calls Try.prog 12 #[.agg #[c0, c1]] w fun e w' => e = .returned (.bool (defB D)) ∧ Below w.heap.size w w' := by
  have WH := Lib.hid (fun (wx : World) (h : Below w.heap.size w wx) => wholes_any D c0 c1 wx B (Nat.le_trans hB h.size) (hD.below (h.mono hB)) (by
    have h1 : (wholesL D).length = D.ops.length + D.frags.length := by unfold wholesL; rw [List.length_append, List.length_map, List.length_map]
    have h2 := gpreL_len (wholesL D)
    unfold allS at hN
    omega))
  have HN := Lib.hid hN
  have HB := Lib.hid hB
  obtain ⟨n, hn⟩ : ∃ n, w.heap.size = n := ⟨_, rfl⟩
  have HNN := Lib.hid hn
  clear hD hB hN hn
  refine callsIn_wide.1 (callsIn_of_wp_marks (F := Fence.wide) (n := 3) Try.func12 rfl trivial ?_)
  simp only [Try.ntmps12, List.size_toArray, List.length_cons, List.length_nil, Nat.reduceAdd, Nat.reduceSub, Array.replicate_succ, Array.replicate_zero, List.push_toArray, List.append_toArray, List.nil_append, List.cons_append]
  refine wpIn_wide.2 ?_
  go_upto_region 1 with fail
  go_step3
  go_wp2_with fail
  go_step3
  obtain ⟨w1, hw1⟩ : ∃ W, W = (w.alloc (.cells #[c0, c1] 49)).alloc (.cells #[.bool true] 4) := ⟨_, rfl⟩
  have ST := two_start w c0 c1 _ w1 hw1
  rw [← hw1]
  rw [HNN.out] at ST ⊢
  obtain ⟨s1, s2, s3, s4⟩ := ST
  have S1 := Lib.hid s1
  have S2 := Lib.hid s2
  have S4 := Lib.hid s4
  obtain ⟨⟨z0, z1⟩, _⟩ := gcells2 s3
  clear s1 s2 s3 s4 hw1
  go_wp2_with fail
  refine (WH.out _ (by rw [HNN.out]; exact S2.out)).mono ?_
  rintro e w2 ⟨V, xs, rfl, hown, hfl, hb⟩
  obtain ⟨A, k, rfl, hk, hS⟩ := own_sels hown hfl (by have h1 := HB.out; have h2 := hb.size; have h3 := S1.out; have h4 := HNN.out; omega)
  obtain ⟨m, hm⟩ : ∃ m, w2.heap.size = m := ⟨_, rfl⟩
  rw [hm] at hS
  have hnm : n + 2 ≤ m := by have h2 := hb.size; have h3 := S1.out; omega
  have HS := Lib.hid hS
  have S2 := Lib.hid (S2.out.trans (hb.mono (by have := S1.out; omega)))
  have S4 := Lib.hid ((hb.block (n + 1) (by have := S1.out; omega)).trans S4.out)
  have EA := Lib.hid (fun (wx : World) => each_any A (toSL (wholesL D)).len k wx)
  clear hown hfl hb hS WH S1 z0 z1
  go_wp2_with fail
  refine (EA.out _).mono ?_
  rintro e w3 ⟨rfl, hw3⟩
  have hbw : Below w2.heap.size w2 w3 := by rw [hw3]; exact gnew _ _
  have F1 : Hid (w3.heap[m]? = some (.cells #[.slice A (toSL (wholesL D)).len k] 40 (0, 0))) := Lib.hid (by rw [hw3, ← hm]; exact heap_alloc_new _ _)
  have hsz : w3.heap.size = m + 1 := by rw [hw3]; simp [hm]
  have S2 := Lib.hid (S2.out.trans (hbw.mono (by omega)))
  have S4 := Lib.hid ((hbw.block (n + 1) (by omega)).trans S4.out)
  have HS := Lib.hid (HS.out.keep (Nat.le_refl _) (fun b hl => hbw.block b (by omega)))
  rw [hm]
  clear hw3 hbw EA hm
  go_wp2_with fail
  have hd1 : w3.heap.size + 1 = m + 2 := by omega
  obtain ⟨XS, hXS⟩ : ∃ XS, allS D = XS := ⟨_, rfl⟩
  have HX := Lib.hid hXS
  rw [hXS] at HN
  clear hXS
  refine (wpIn_wide (n := 3)).1 (wpIn_rangeFunc_z (F := Fence.wide) rfl (by decide) (gf := 20) (lb := #[.pointer (some ⟨m, 0, none⟩)]) rfl trivial (enters_of Try.func20 (by kernel_rfl) rfl)
    XS.length encG (LiesG XS m) (TG (m + 3)) (fun Z Z' A B => Z' = Z ∧ Below A.heap.size A B) RG (fun _ => rfl) (fun b => b = m + 2)
    (fun i Z W => DfI w n (n + 1) m Z W ∧ ∀ j x, j < i → XS[j]? = some x → defX x = true)
    (fun c i W => c = .exit 0 ∧ W.heap[n + 1]? = some (.cells #[.bool false] 4 (0, 0)) ∧ Below n w W ∧ ∃ x, XS[i]? = some x ∧ defX x = false)
    ?hTl ?hIT ?hIr ?hIxr ?hRc ?h0 ?hseq ?hround ?hdone ?hstop)
  case hTl =>
    intro Z Z' a b ht c o hc ho
    exact (ht.mo.block c (Array.getElem?_eq_some_iff.1 ho).1 (by omega)).trans ho
  case hIT =>
    rintro i Z Z' a b ⟨h, h2⟩ ht
    exact ⟨h.t (by omega) (by omega) ht, h2⟩
  case hIr =>
    rintro i Z W o ⟨h, h2⟩ _
    rw [hd1]
    exact ⟨h.put (by omega) (by omega) o, h2⟩
  case hIxr =>
    rintro c i W o ⟨h1, h2, h3, h4⟩ _
    rw [hd1]
    exact ⟨h1, (World.putObj_heap_other (by omega)).trans h2, glow_put h3 (by omega) o, h4⟩
  case hRc =>
    rintro i Z Z1 Z' W W1 W3 o o' ⟨h, _⟩ ⟨rfl, hb⟩ _ hr
    rw [hd1] at hr ⊢
    exact RG.put2 ((h.zd _).2 rfl) hb hr
  case h0 =>
    intro W1 hb hs1
    exact ⟨⟨⟨fun b hz => by omega, fun b hl hz => by omega, by omega, by omega⟩, fun b => Iff.rfl, S2.out.trans (hb.mono (by omega)), (hb.block _ (by omega)).trans S4.out⟩, fun j x hj _ => by omega⟩
  case hseq =>
    intro W1 J Jx hb hs1 hJ hY hJ0
    rw [hd1] at hY ⊢
    refine each_in 2 (by decide) m m (toSL (wholesL D)) A k XS HX.out.symm HN.out hk (m + 3) (m + 2) J Jx hJ hY _ W1 (by omega) hJ0 ⟨fun b hz => by omega, fun b hl hz => by omega, by omega, by omega⟩ ((hb.block _ (by omega)).trans F1.out) ?_
    exact HS.out.keep (Nat.le_refl _) (fun b hl => hb.block b (by omega))
  case hround =>
    rintro i cs Z W hi ⟨h1, h2⟩ ⟨x, hx, hX⟩ hlt
    obtain ⟨Ag, kg, Ad, kd, As, ks, rfl, hT, _⟩ := hX
    have H1 := Lib.hid h1
    have H2 := Lib.hid h2
    have HXX := Lib.hid hx
    have HT := Lib.hid hT
    clear h1 h2 hx hT
    have e0 : ∀ z : List Value, (#[10].zip (encG z)) = #[(10, .agg z.toArray)] := fun z => by simp [encG]
    simp only [e0]
    gi_wp2
    have hb9 := Lib.hid (gnew W (.cells #[.int .i64 x.kind, .string x.als, .string x.name, .slice Ag x.args.len kg, .slice Ad x.dirs.length kd, .string x.on, .slice As x.sels.len ks] 42))
    have i9 := Lib.hid (heap_alloc_new W (.cells #[.int .i64 x.kind, .string x.als, .string x.name, .slice Ag x.args.len kg, .slice Ad x.dirs.length kd, .string x.on, .slice As x.sels.len ks] 42))
    generalize W.alloc (.cells #[.int .i64 x.kind, .string x.als, .string x.name, .slice Ag x.args.len kg, .slice Ad x.dirs.length kd, .string x.on, .slice As x.sels.len ks] 42) = V0 at hb9 i9 ⊢
    refine ⟨Z, TG.of_below hb9.out, ⟨rfl, hb9.out⟩, ⟨H1.out.t (by omega) (by omega) (TG.of_below hb9.out), H2.out⟩, fun o => ?_⟩
    have HP := Lib.hid ((H1.out.t (by omega) (by omega) (TG.of_below hb9.out)).put (by omega) (by omega) o)
    have hgb : m + 3 ≤ W.heap.size := H1.out.ie.hb
    have I9 := Lib.hid ((World.putObj_heap_other (w := V0) (r := m + 2) (o := o) (show W.heap.size ≠ m + 2 by omega)).trans i9.out)
    have HTP := Lib.hid (TS.keep (w' := V0.putObj (m + 2) o) (P' := fun b => b < m) (fun b (hb : b < m) => ⟨hb, (World.putObj_heap_other (by omega)).trans (hb9.out.block b (by omega))⟩) _ _ HT.out)
    rw [hd1]
    generalize V0.putObj (m + 2) o = V1 at HP I9 HTP ⊢
    have hgl : W.heap.size < V1.heap.size := (Array.getElem?_eq_some_iff.1 I9.out).1
    generalize W.heap.size = gb at I9 hgb hgl ⊢
    clear hb9 i9 H1 hlt HT
    obtain ⟨⟨y0, y1, y2, y3, y4, y5, y6⟩, _⟩ := gcells7 I9.out
    obtain ⟨_, _, _, _, _, _, eq, _, _, _, ⟨hdl, hdr⟩, _⟩ := sel_cells HTP.out
    simp only [List.cons.injEq, Value.slice.injEq, and_true, true_and] at eq
    obtain ⟨⟨rfl, rfl⟩, ⟨rfl, rfl⟩, rfl, rfl⟩ := eq
    have HDR := Lib.hid hdr
    clear hdr HTP
    gi_wp2
    clear y0 y1 y2 y3 y4 y5 y6
    gi_loopg [14] x.dirs.length (fun g i2 wx => ∃ z : Nat, z + g = x.dirs.length ∧ i2 = .int .i64 z ∧ Asd (Below V1.heap.size V1 wx ∧ ∀ j y, j < z → x.dirs[j]? = some y → isDir y.1 = true))
    case atStart => exact ⟨0, by omega, rfl, Asd.intro ⟨Below.refl _ _, fun j y hj _ => by omega⟩⟩
    case round =>
      obtain ⟨z, hz, rfl, hx⟩ := hrel
      have B5 := Lib.hid hx.out.1
      have C5 := Lib.hid hx.out.2
      have hmv : m + 3 ≤ V1.heap.size := HP.out.ie.hb
      have X5 := Lib.hid ((B5.out.block (n + 1) (by omega)).trans HP.out.box)
      clear hx
      cases gk with
      | zero =>
        obtain rfl : z = x.dirs.length := by omega
        gi_wp2
        obtain ⟨p1, p2⟩ := HP.out.round (by omega) (by omega) B5.out
        refine ⟨⟨B5.out.block _ (by omega), B5.out.block _ (by omega)⟩, _, ⟨p1, fun j x' hj hx' => ?_⟩, p2⟩
        rcases Nat.lt_or_ge j i with hl | hl
        · exact H2.out j x' hl hx'
        · obtain rfl : j = i := by omega
          obtain rfl : x = x' := Option.some.inj (HXX.out.symm.trans hx')
          refine List.all_eq_true.2 fun y hy => ?_
          obtain ⟨q, hq⟩ := List.mem_iff_getElem?.1 hy
          exact C5.out q y (List.getElem?_eq_some_iff.1 hq).1 hq
      | succ g =>
        have hzn : z < x.dirs.length := by omega
        have hzn' : (z : Int) < (x.dirs.length : Int) := by omega
        obtain ⟨y, hy⟩ : ∃ y, x.dirs[z]? = some y := ⟨_, List.getElem?_eq_getElem hzn⟩
        obtain ⟨b, p, A2, k2, rfl, hlb, g0, g1, hys⟩ := dir_cells (RowT.below (B5.out.mono (by omega)) HDR.out) hy
        have HY := Lib.hid hy
        have HLB : b < wr.heap.size := by have := B5.out.size; omega
        clear hy
        obtain ⟨x0, x1⟩ := gone_box X5.out
        gi_upto_region 7 with fail
        clear g0 g1 x0 x1
        have B6 := Lib.hid (gnew wr (.cells #[.string y.1, .slice A2 y.2.len k2] 37))
        have I6 := Lib.hid (heap_alloc_new wr (.cells #[.string y.1, .slice A2 y.2.len k2] 37))
        generalize wr.alloc (.cells #[.string y.1, .slice A2 y.2.len k2] 37) = w6 at B6 I6 ⊢
        have hgd : wr.heap.size < w6.heap.size := (Array.getElem?_eq_some_iff.1 I6.out).1
        have C6 := Lib.hid (B5.out.trans (B6.out.mono B5.out.size))
        have hwr := B5.out.size
        generalize wr.heap.size = gd at I6 hgd hwr ⊢
        obtain ⟨⟨u0, u1⟩, _⟩ := gcells2 I6.out
        obtain ⟨bd, hbd⟩ : ∃ b, isDir y.1 = b := ⟨_, rfl⟩
        have DP := Lib.hid (fun (wx : World) => dpar_any y.1 wx)
        unfold DparO at DP
        rw [hbd] at DP
        have HBD := Lib.hid hbd
        clear hbd B5 B6
        gi_wp2
        refine ⟨trivial, (CallsIn.inRound _ (callsIn_wide.2 (DP.out _))).mono ?_⟩
        rintro e w7 ⟨rfl, hb7⟩
        have C7 := Lib.hid (C6.out.trans (hb7.mono C6.out.size))
        have X7 := Lib.hid ((C7.out.block (n + 1) (by omega)).trans HP.out.box)
        obtain ⟨x0, x1⟩ := gone_box X7.out
        clear hb7 DP u0 u1 C6 X5
        have hlw := HP.out.low.trans (C7.out.mono (show n ≤ V1.heap.size by omega))
        cases bd
        · gi_wp2
          refine ⟨⟨(Below.heap_setCell _ _ _ _ (by show m + 2 ≠ n + 1; omega)).trans (C7.out.block _ (by omega)), (Below.heap_setCell _ _ _ _ (by show w3.heap.size ≠ n + 1; omega)).trans (C7.out.block _ (by omega))⟩, rfl, gset_one X7.out, hlw.setCell (p := ⟨n + 1, 0, none⟩) (by show n ≤ n + 1; omega) _, x, HXX.out, ?_⟩
          refine Bool.eq_false_iff.2 fun h => ?_
          have h := List.all_eq_true.1 h y (List.mem_of_getElem? HY.out)
          rw [HBD.out] at h
          cases h
        · gi_wp2
          gi_roundg g
          case measure => omega
          case rel =>
            refine ⟨z + 1, by omega, by go_num, Asd.intro ⟨gset_still C7.out X7.out, fun j y' hj hy' => ?_⟩⟩
            rcases Nat.lt_or_ge j z with hl | hl
            · exact C5.out j y' hl hy'
            · obtain rfl : j = z := by omega
              obtain rfl : y = y' := Option.some.inj (HY.out.symm.trans hy')
              exact HBD.out
  case hdone =>
    rintro Z W ⟨h, h2⟩ hK
    obtain ⟨q0, q1⟩ := gone_box h.box
    have hl := Lib.hid h.low
    have H2 := Lib.hid h2
    clear h h2
    go_wp2_with fail
    rw [Exit.noGoto_ret]
    refine gpostM_mark (D := w3.heap.size) rfl hK (fun w' hb => gres_bool rfl rfl) (fun w' e1 e2 e3 e4 hb => ⟨?_, ?_⟩)
    · rw [show defB D = true by
        unfold defB
        rw [HX.out]
        refine List.all_eq_true.2 fun y hy => ?_
        obtain ⟨q, hq⟩ := List.mem_iff_getElem?.1 hy
        exact H2.out q y (List.getElem?_eq_some_iff.1 hq).1 hq]
    · rw [HNN.out]
      exact ⟨e1.trans hl.out.os, e2.trans hl.out.tape, e3.trans hl.out.output, by rw [e4]; exact hl.out.size, fun b hb' => (hb b (by omega)).trans (hl.out.block b hb')⟩
  case hstop =>
    rintro c i W hi ⟨rfl, h2, h3, h4⟩ hK
    refine wpIn_wide.2 ?_
    obtain ⟨q0, q1⟩ := gone_box h2
    obtain ⟨x, hx, hbx⟩ := h4
    have HXX := Lib.hid hx
    have HBX := Lib.hid hbx
    have H3 := Lib.hid h3
    clear hx hbx h2 h3
    go_wp2_with fail
    rw [Exit.noGoto_ret]
    refine gpostM_mark (D := w3.heap.size) rfl hK (fun w' hb => gres_bool rfl rfl) (fun w' e1 e2 e3 e4 hb => ⟨?_, ?_⟩)
    · rw [show defB D = false by
        unfold defB
        rw [HX.out]
        refine Bool.eq_false_iff.2 fun h => ?_
        have h := List.all_eq_true.1 h x (List.mem_of_getElem? HXX.out)
        rw [HBX.out] at h
        cases h]
    · rw [HNN.out]
      exact ⟨e1.trans H3.out.os, e2.trans H3.out.tape, e3.trans H3.out.output, by rw [e4]; exact H3.out.size, fun b hb' => (hb b (by omega)).trans (H3.out.block b hb')⟩
set_option maxRecDepth 100000 in
set_option maxHeartbeats 8000000 in
theorem occurOnce_any (D : DocT) (c0 c1 : Value) (w : World) (B : Nat) (hB : B ≤ w.heap.size) (hD : DocAt w B D c0 c1) (hN : (allS D).length ≤ 1099511627776) :
    Calls Try.prog 16 #[.agg #[c0, c1]] w fun e w' => e = .returned (.bool (onceB D)) ∧ Below w.heap.size w w' := by
  have WH := Lib.hid (fun (wx : World) (h : Below w.heap.size w wx) => wholes_any D c0 c1 wx B (Nat.le_trans hB h.size) (hD.below (h.mono hB)) (by
    have h1 : (wholesL D).length = D.ops.length + D.frags.length := by unfold wholesL; rw [List.length_append, List.length_map, List.length_map]
    have h2 := gpreL_len (wholesL D)
    unfold allS at hN
    omega))
  have HN := Lib.hid hN
  have HB := Lib.hid hB
  obtain ⟨n, hn⟩ : ∃ n, w.heap.size = n := ⟨_, rfl⟩
  have HNN := Lib.hid hn
  clear hD hB hN hn
  refine callsIn_wide.1 (callsIn_of_wp_marks (F := Fence.wide) (n := 3) Try.func16 rfl trivial ?_)
  simp only [Try.ntmps16, List.size_toArray, List.length_cons, List.length_nil, Nat.reduceAdd, Nat.reduceSub, Array.replicate_succ, Array.replicate_zero, List.push_toArray, List.append_toArray, List.nil_append, List.cons_append]
  refine wpIn_wide.2 ?_
  go_upto_region 1 with fail
  go_step3
  go_wp2_with fail
  go_step3
  obtain ⟨w1, hw1⟩ : ∃ W, W = (w.alloc (.cells #[c0, c1] 49)).alloc (.cells #[.bool true] 4) := ⟨_, rfl⟩
  have ST := two_start w c0 c1 _ w1 hw1
  rw [← hw1]
  rw [HNN.out] at ST ⊢
  obtain ⟨s1, s2, s3, s4⟩ := ST
  have S1 := Lib.hid s1
  have S2 := Lib.hid s2
  have S4 := Lib.hid s4
  obtain ⟨⟨z0, z1⟩, _⟩ := gcells2 s3
  clear s1 s2 s3 s4 hw1
  go_wp2_with fail
  refine (WH.out _ (by rw [HNN.out]; exact S2.out)).mono ?_
  rintro e w2 ⟨V, xs, rfl, hown, hfl, hb⟩
  obtain ⟨A, k, rfl, hk, hS⟩ := own_sels hown hfl (by have h1 := HB.out; have h2 := hb.size; have h3 := S1.out; have h4 := HNN.out; omega)
  obtain ⟨m, hm⟩ : ∃ m, w2.heap.size = m := ⟨_, rfl⟩
  rw [hm] at hS
  have hnm : n + 2 ≤ m := by have h2 := hb.size; have h3 := S1.out; omega
  have HS := Lib.hid hS
  have S2 := Lib.hid (S2.out.trans (hb.mono (by have := S1.out; omega)))
  have S4 := Lib.hid ((hb.block (n + 1) (by have := S1.out; omega)).trans S4.out)
  have EA := Lib.hid (fun (wx : World) => each_any A (toSL (wholesL D)).len k wx)
  clear hown hfl hb hS WH S1 z0 z1
  go_wp2_with fail
  refine (EA.out _).mono ?_
  rintro e w3 ⟨rfl, hw3⟩
  have hbw : Below w2.heap.size w2 w3 := by rw [hw3]; exact gnew _ _
  have F1 : Hid (w3.heap[m]? = some (.cells #[.slice A (toSL (wholesL D)).len k] 40 (0, 0))) := Lib.hid (by rw [hw3, ← hm]; exact heap_alloc_new _ _)
  have hsz : w3.heap.size = m + 1 := by rw [hw3]; simp [hm]
  have S2 := Lib.hid (S2.out.trans (hbw.mono (by omega)))
  have S4 := Lib.hid ((hbw.block (n + 1) (by omega)).trans S4.out)
  have HS := Lib.hid (HS.out.keep (Nat.le_refl _) (fun b hl => hbw.block b (by omega)))
  rw [hm]
  clear hw3 hbw EA hm
  go_wp2_with fail
  have hd1 : w3.heap.size + 1 = m + 2 := by omega
  obtain ⟨XS, hXS⟩ : ∃ XS, allS D = XS := ⟨_, rfl⟩
  have HX := Lib.hid hXS
  rw [hXS] at HN
  clear hXS
  refine (wpIn_wide (n := 3)).1 (wpIn_rangeFunc_z (F := Fence.wide) rfl (by decide) (gf := 20) (lb := #[.pointer (some ⟨m, 0, none⟩)]) rfl trivial (enters_of Try.func20 (by kernel_rfl) rfl)
    XS.length encG (LiesG XS m) (TG (m + 3)) (fun Z Z' A B => Z' = Z ∧ Below A.heap.size A B) RG (fun _ => rfl) (fun b => b = m + 2)
    (fun i Z W => DfI w n (n + 1) m Z W ∧ ∀ j x, j < i → XS[j]? = some x → onceX x = true)
    (fun c i W => c = .exit 0 ∧ W.heap[n + 1]? = some (.cells #[.bool false] 4 (0, 0)) ∧ Below n w W ∧ ∃ x, XS[i]? = some x ∧ onceX x = false)
    ?hTl ?hIT ?hIr ?hIxr ?hRc ?h0 ?hseq ?hround ?hdone ?hstop)
  case hTl =>
    intro Z Z' a b ht c o hc ho
    exact (ht.mo.block c (Array.getElem?_eq_some_iff.1 ho).1 (by omega)).trans ho
  case hIT =>
    rintro i Z Z' a b ⟨h, h2⟩ ht
    exact ⟨h.t (by omega) (by omega) ht, h2⟩
  case hIr =>
    rintro i Z W o ⟨h, h2⟩ _
    rw [hd1]
    exact ⟨h.put (by omega) (by omega) o, h2⟩
  case hIxr =>
    rintro c i W o ⟨h1, h2, h3, h4⟩ _
    rw [hd1]
    exact ⟨h1, (World.putObj_heap_other (by omega)).trans h2, glow_put h3 (by omega) o, h4⟩
  case hRc =>
    rintro i Z Z1 Z' W W1 W3 o o' ⟨h, _⟩ ⟨rfl, hb⟩ _ hr
    rw [hd1] at hr ⊢
    exact RG.put2 ((h.zd _).2 rfl) hb hr
  case h0 =>
    intro W1 hb hs1
    exact ⟨⟨⟨fun b hz => by omega, fun b hl hz => by omega, by omega, by omega⟩, fun b => Iff.rfl, S2.out.trans (hb.mono (by omega)), (hb.block _ (by omega)).trans S4.out⟩, fun j x hj _ => by omega⟩
  case hseq =>
    intro W1 J Jx hb hs1 hJ hY hJ0
    rw [hd1] at hY ⊢
    refine each_in 2 (by decide) m m (toSL (wholesL D)) A k XS HX.out.symm HN.out hk (m + 3) (m + 2) J Jx hJ hY _ W1 (by omega) hJ0 ⟨fun b hz => by omega, fun b hl hz => by omega, by omega, by omega⟩ ((hb.block _ (by omega)).trans F1.out) ?_
    exact HS.out.keep (Nat.le_refl _) (fun b hl => hb.block b (by omega))
  case hround =>
    rintro i cs Z W hi ⟨h1, h2⟩ ⟨x, hx, hX⟩ hlt
    obtain ⟨Ag, kg, Ad, kd, As, ks, rfl, hT, _⟩ := hX
    have H1 := Lib.hid h1
    have H2 := Lib.hid h2
    have HXX := Lib.hid hx
    have HT := Lib.hid hT
    clear h1 h2 hx hT
    have e0 : ∀ z : List Value, (#[11].zip (encG z)) = #[(11, .agg z.toArray)] := fun z => by simp [encG]
    simp only [e0]
    gi_wp2
    have hb9 := Lib.hid (gnew W (.cells #[.int .i64 x.kind, .string x.als, .string x.name, .slice Ag x.args.len kg, .slice Ad x.dirs.length kd, .string x.on, .slice As x.sels.len ks] 42))
    have i9 := Lib.hid (heap_alloc_new W (.cells #[.int .i64 x.kind, .string x.als, .string x.name, .slice Ag x.args.len kg, .slice Ad x.dirs.length kd, .string x.on, .slice As x.sels.len ks] 42))
    generalize W.alloc (.cells #[.int .i64 x.kind, .string x.als, .string x.name, .slice Ag x.args.len kg, .slice Ad x.dirs.length kd, .string x.on, .slice As x.sels.len ks] 42) = V0 at hb9 i9 ⊢
    refine ⟨Z, TG.of_below hb9.out, ⟨rfl, hb9.out⟩, ⟨H1.out.t (by omega) (by omega) (TG.of_below hb9.out), H2.out⟩, fun o => ?_⟩
    have HP := Lib.hid ((H1.out.t (by omega) (by omega) (TG.of_below hb9.out)).put (by omega) (by omega) o)
    have hgb : m + 3 ≤ W.heap.size := H1.out.ie.hb
    have I9 := Lib.hid ((World.putObj_heap_other (w := V0) (r := m + 2) (o := o) (show W.heap.size ≠ m + 2 by omega)).trans i9.out)
    have HTP := Lib.hid (TS.keep (w' := V0.putObj (m + 2) o) (P' := fun b => b < m) (fun b (hb : b < m) => ⟨hb, (World.putObj_heap_other (by omega)).trans (hb9.out.block b (by omega))⟩) _ _ HT.out)
    rw [hd1]
    generalize V0.putObj (m + 2) o = V1 at HP I9 HTP ⊢
    have hgl : W.heap.size < V1.heap.size := (Array.getElem?_eq_some_iff.1 I9.out).1
    generalize W.heap.size = gb at I9 hgb hgl ⊢
    clear hb9 i9 H1 hlt HT
    obtain ⟨⟨y0, y1, y2, y3, y4, y5, y6⟩, _⟩ := gcells7 I9.out
    obtain ⟨_, _, _, _, _, _, eq, _, _, _, ⟨hdl, hdr⟩, _⟩ := sel_cells HTP.out
    simp only [List.cons.injEq, Value.slice.injEq, and_true, true_and] at eq
    obtain ⟨⟨rfl, rfl⟩, ⟨rfl, rfl⟩, rfl, rfl⟩ := eq
    have HDR := Lib.hid hdr
    clear hdr HTP
    have hmk := fun (wx : World) => gmake_map (P := Try.prog) 75 wx
    gi_upto_region 5 with fail
    clear y0 y1 y2 y3 y4 y5 y6 hmk
    have B2 := Lib.hid (gnew V1 (.map #[] 0))
    have M2 := Lib.hid (SeenM.made V1)
    generalize V1.alloc (.map #[] 0) = V2 at B2 M2 ⊢
    have hmv : m + 3 ≤ V1.heap.size := HP.out.ie.hb
    have HPW := Lib.hid HP.out.ie
    obtain ⟨gm, hgm⟩ : ∃ g, V1.heap.size = g := ⟨_, rfl⟩
    rw [hgm] at M2 hmv hgl ⊢
    have I2 := Lib.hid ((B2.out.block gb (by omega)).trans I9.out)
    obtain ⟨⟨y0, y1, y2, y3, y4, y5, y6⟩, _⟩ := gcells7 I2.out
    gi_wp2
    clear y0 y1 y2 y3 y4 y5 y6
    obtain ⟨NS, hNS⟩ : ∃ l, x.dirs.map (·.1) = l := ⟨_, rfl⟩
    have HNS := Lib.hid hNS
    have hNL : NS.length = x.dirs.length := by rw [← hNS, List.length_map]
    clear hNS
    gi_loopg [16] x.dirs.length (fun g i2 wx => ∃ z : Nat, z + g = x.dirs.length ∧ i2 = .int .i64 z ∧ Asd (Below V1.heap.size V1 wx ∧ SeenM wx gm (NS.take z) ∧ onceN [] NS = onceN (NS.take z) (NS.drop z)))
    case atStart => exact ⟨0, by omega, rfl, Asd.intro ⟨B2.out, by rw [List.take_zero]; exact M2.out, by rw [List.take_zero, List.drop_zero]⟩⟩
    case round =>
      obtain ⟨z, hz, rfl, hx⟩ := hrel
      have B5 := Lib.hid hx.out.1
      have M5 := Lib.hid hx.out.2.1
      have C5 := Lib.hid hx.out.2.2
      have X5 := Lib.hid ((B5.out.block (n + 1) (by omega)).trans HP.out.box)
      clear hx
      cases gk with
      | zero =>
        obtain rfl : z = x.dirs.length := by omega
        gi_wp2
        obtain ⟨p1, p2⟩ := HP.out.round (by omega) (by omega) B5.out
        refine ⟨⟨B5.out.block _ (by omega), B5.out.block _ (by omega)⟩, _, ⟨p1, fun j x' hj hx' => ?_⟩, p2⟩
        rcases Nat.lt_or_ge j i with hl | hl
        · exact H2.out j x' hl hx'
        · obtain rfl : j = i := by omega
          obtain rfl : x = x' := Option.some.inj (HXX.out.symm.trans hx')
          unfold onceX
          rw [HNS.out, C5.out, ← hNL, List.drop_length]
          rfl
      | succ g =>
        have hzn : z < x.dirs.length := by omega
        have hzn' : (z : Int) < (x.dirs.length : Int) := by omega
        obtain ⟨y, hy⟩ : ∃ y, x.dirs[z]? = some y := ⟨_, List.getElem?_eq_getElem hzn⟩
        obtain ⟨b, p, A2, k2, rfl, hlb, g0, g1, hys⟩ := dir_cells (RowT.below (B5.out.mono (by omega)) HDR.out) hy
        have hyn : NS[z]? = some y.1 := by rw [← HNS.out, List.getElem?_map, hy]; rfl
        have HY := Lib.hid hyn
        have C5 := Lib.hid (C5.out.trans (once_at hyn))
        have HLB : b < wr.heap.size := by have := B5.out.size; omega
        have HTL : (NS.take z).length + 1 ≤ 9223372036854775807 := by rw [List.length_take]; omega
        have HTZ : Hid (NS.take (z + 1) = NS.take z ++ [y.1]) := Lib.hid (by rw [List.take_add_one, hyn]; rfl)
        clear hy hyn
        obtain ⟨x0, x1⟩ := gone_box X5.out
        gi_upto_region 8 with fail
        clear g0 g1 x0 x1
        have B6 := Lib.hid (gnew wr (.cells #[.string y.1, .slice A2 y.2.len k2] 37))
        have I6 := Lib.hid (heap_alloc_new wr (.cells #[.string y.1, .slice A2 y.2.len k2] 37))
        generalize wr.alloc (.cells #[.string y.1, .slice A2 y.2.len k2] 37) = w6 at B6 I6 ⊢
        have hgd : wr.heap.size < w6.heap.size := (Array.getElem?_eq_some_iff.1 I6.out).1
        have C6 := Lib.hid (B5.out.trans (B6.out.mono B5.out.size))
        have M6 := Lib.hid (M5.out.one (B6.out.block gm M5.out.lt))
        have X6 := Lib.hid ((C6.out.block (n + 1) (by omega)).trans HP.out.box)
        have hwr := M5.out.lt
        generalize wr.heap.size = gd at I6 hgd hwr ⊢
        obtain ⟨⟨u0, u1⟩, _⟩ := gcells2 I6.out
        obtain ⟨x0, x1⟩ := gone_box X6.out
        obtain ⟨SN, hSN⟩ : ∃ l, NS.take z = l := ⟨_, rfl⟩
        rw [hSN] at M6 C5 HTL HTZ
        have hlk := M6.out.look y.1 hys
        obtain ⟨bd, hbd⟩ : ∃ b, inN SN y.1 = b := ⟨_, rfl⟩
        rw [hbd] at hlk C5
        clear hbd B5 B6 X5 M5 hSN
        have hlw := HP.out.low.trans (C6.out.mono (show n ≤ V1.heap.size by omega))
        cases bd
        · obtain ⟨D1, hD1, hD2⟩ := M6.out
          have HD1 := Lib.hid hD1
          have HD2 := Lib.hid hD2
          have hkey := WideMaps.keyOf_string_mk (P := Try.prog) Try.underlying9 (show y.1.size ≤ maxLen by unfold maxLen; exact hys)
          have HW := Lib.hid hlw
          clear hD1 hD2 hlw x0 x1
          gi_wp2_with (gi_at_mapUpdate; go_loud (refine wpListIn_mapUpdate_own _ rfl _ _ _ 75 rfl 9 4 (Maps.string_keyed Try.underlying9) Try.underlying75 _ gm SN.length D1 rfl HD1.out (by unfold maxLen; omega) _ _ _ rfl rfl hkey _ [] (plainElem_bool Try.underlying4 true) ?_; intro w8 hown8 hg8; have HO8 := Lib.hid hown8; have HG8 := Lib.hid hg8; clear hown8 hg8))
          gi_roundg g
          case measure => omega
          case rel =>
            refine ⟨z + 1, by omega, by go_num, Asd.intro ⟨?_, ?_, ?_⟩⟩
            · exact gbelow_grown C6.out HG8.out C6.out.size (fun b hb => by injection hb with hb; omega)
            · rw [HTZ.out]
              exact ⟨_, by rw [List.length_append, List.length_singleton]; exact HO8.out, HD2.out.put y.1⟩
            · rw [C5.out, HTZ.out]
              rfl
        · gi_wp2
          refine ⟨⟨(Below.heap_setCell _ _ _ _ (by show m + 2 ≠ n + 1; omega)).trans (C6.out.block _ (by omega)), (Below.heap_setCell _ _ _ _ (by show w3.heap.size ≠ n + 1; omega)).trans (C6.out.block _ (by omega))⟩, rfl, gset_one X6.out, hlw.setCell (p := ⟨n + 1, 0, none⟩) (by show n ≤ n + 1; omega) _, x, HXX.out, ?_⟩
          unfold onceX
          rw [HNS.out, C5.out]
          rfl
  case hdone =>
    rintro Z W ⟨h, h2⟩ hK
    obtain ⟨q0, q1⟩ := gone_box h.box
    have hl := Lib.hid h.low
    have H2 := Lib.hid h2
    clear h h2
    go_wp2_with fail
    rw [Exit.noGoto_ret]
    refine gpostM_mark (D := w3.heap.size) rfl hK (fun w' hb => gres_bool rfl rfl) (fun w' e1 e2 e3 e4 hb => ⟨?_, ?_⟩)
    · rw [show onceB D = true by
        unfold onceB
        rw [HX.out]
        refine List.all_eq_true.2 fun y hy => ?_
        obtain ⟨q, hq⟩ := List.mem_iff_getElem?.1 hy
        exact H2.out q y (List.getElem?_eq_some_iff.1 hq).1 hq]
    · rw [HNN.out]
      exact ⟨e1.trans hl.out.os, e2.trans hl.out.tape, e3.trans hl.out.output, by rw [e4]; exact hl.out.size, fun b hb' => (hb b (by omega)).trans (hl.out.block b hb')⟩
  case hstop =>
    rintro c i W hi ⟨rfl, h2, h3, h4⟩ hK
    refine wpIn_wide.2 ?_
    obtain ⟨q0, q1⟩ := gone_box h2
    obtain ⟨x, hx, hbx⟩ := h4
    have HXX := Lib.hid hx
    have HBX := Lib.hid hbx
    have H3 := Lib.hid h3
    clear hx hbx h2 h3
    go_wp2_with fail
    rw [Exit.noGoto_ret]
    refine gpostM_mark (D := w3.heap.size) rfl hK (fun w' hb => gres_bool rfl rfl) (fun w' e1 e2 e3 e4 hb => ⟨?_, ?_⟩)
    · rw [show onceB D = false by
        unfold onceB
        rw [HX.out]
        refine Bool.eq_false_iff.2 fun h => ?_
        have h := List.all_eq_true.1 h x (List.mem_of_getElem? HXX.out)
        rw [HBX.out] at h
        cases h]
    · rw [HNN.out]
      exact ⟨e1.trans H3.out.os, e2.trans H3.out.tape, e3.trans H3.out.output, by rw [e4]; exact H3.out.size, fun b hb' => (hb b (by omega)).trans (H3.out.block b hb')⟩
end Go.Proofs.Ytgihnhdknphhpaa
