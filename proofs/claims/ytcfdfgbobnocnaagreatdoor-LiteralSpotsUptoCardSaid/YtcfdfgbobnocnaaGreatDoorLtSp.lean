/- The document's places of variables, and rows of them. -/
import Derived.Test.YtcfdfgbobnocnaaGreatDoorLtLast
import Derived.Test.YtcfdfgbobnocnaaGreatDoorDfPoss
import Derived.Test.YtcfdfgbobnocnaaGreatDoorLtRef3
import Derived.Deep.AppendLies
namespace Go.Proofs.YtcfdfgbobnocnaaGreatDoor
open Go.RowKit

theorem W64_fits {n : Nat} (h : n ≤ 1048576) : W64 n = (n : Int) := by
  unfold W64
  simp only [IntKind.wrap_i64]
  omega
theorem lightz_any (S : SchT) (v : VT) (hz : sizeV v ≤ 1048576) (c0 c1 c2 : Value) (A3 A4 : Option Addr) (k3 k4 : Nat) (w : World) (hS : TS w (fun b => b < w.heap.size) (encSch S) [c0, c1, c2]) (hV : TS w (fun b => b < w.heap.size) (encV v) [.int .i64 v.kd, .int .i64 v.nn, .string v.ss, .slice A3 v.ls.len k3, .slice A4 v.ms.len k4]) :
    Calls Tryz.prog 7 #[.agg #[c0, c1, c2], .agg #[.int .i64 v.kd, .int .i64 v.nn, .string v.ss, .slice A3 v.ls.len k3, .slice A4 v.ms.len k4]] w fun e w' => ∃ b, e = .returned (.bool b) ∧ (b = true → sizeV v ≤ 1000) ∧ Below w.heap.size w w' := by
  have LT := Lib.hid (fun (wx : World) (h : Below w.heap.size w wx) => light_any S c0 c1 c2 wx w.heap.size h.size (TS.low h hS))
  have SZ := Lib.hid (fun (wx : World) (h : Below w.heap.size w wx) => vsize_any (sizeV v) v (Nat.le_refl _) _ _ _ _ _ wx w.heap.size h.size (ts_vat (TS.low h hV)))
  rw [W64_fits (by omega)] at SZ
  obtain ⟨A, k, e, _⟩ := sch_cells hS
  injection e with e0 e
  injection e with e1 e
  injection e with e2 e
  subst e0 e1 e2
  generalize sizeV v = sz at SZ ⊢
  have N0 := Lib.hid (NB.start w (.cells #[.slice A S.defs.length k, .string S.query, .string S.mutation] 24) (.cells #[.int .i64 v.kd, .int .i64 v.nn, .string v.ss, .slice A3 v.ls.len k3, .slice A4 v.ms.len k4] 30))
  clear hS hV hz
  go_enter Tryz.func7, Tryz.ntmps7
  go_upto_region 1 with fail
  generalize (w.alloc (.cells #[.slice A S.defs.length k, .string S.query, .string S.mutation] 24)).alloc (.cells #[.int .i64 v.kd, .int .i64 v.nn, .string v.ss, .slice A3 v.ls.len k3, .slice A4 v.ms.len k4] 30) = w1 at N0 ⊢
  obtain ⟨x0, x1, x2⟩ := three_cells N0.out.b0
  go_wp2_with fail
  refine (LT.out _ N0.out.low).mono ?_
  rintro e w2 ⟨b, rfl, hb⟩
  have N2 := Lib.hid (N0.out.next hb)
  clear hb x0 x1 x2 N0
  cases b
  · go_wp2_with fail
    go_ret
    exact ⟨_, rfl, (fun h => (by cases h)), N2.out.low⟩
  · obtain ⟨y0, y1, y2, y3, y4⟩ := five_box N2.out.b1
    go_wp2_with fail
    refine (SZ.out _ N2.out.low).mono ?_
    rintro e w3 ⟨rfl, hb⟩
    have N3 := Lib.hid (N2.out.next hb)
    clear hb y0 y1 y2 y3 y4 N2
    go_wp2_with fail
    go_ret
    exact ⟨_, rfl, (fun h => (by have := of_decide_eq_true h; omega)), N3.out.low⟩
/-- A row of spots, as it is read. -/
theorem spot_cells : ∀ {XS : List PlT} {q i : Nat} {x : PlT} {u : Value}, XS[q]? = some x → (spotC x)[i]? = some u → (XS.flatMap spotC)[q * 5 + i]? = some u
  | [], q, i, x, u, h, _ => by cases q <;> simp at h
  | y :: t, 0, i, x, u, h, hu => by
    have : y = x := by simpa using h
    subst this
    have hi : i < (spotC y).length := (List.getElem?_eq_some_iff.1 hu).1
    rw [List.flatMap_cons, Nat.zero_mul, Nat.zero_add, List.getElem?_append_left hi, hu]
  | y :: t, q + 1, i, x, u, h, hu => by
    have h5 : (spotC y).length = 5 := rfl
    rw [List.flatMap_cons, List.getElem?_append_right (by rw [h5]; omega), h5, show (q + 1) * 5 + i - 5 = q * 5 + i by omega]
    exact spot_cells (XS := t) (by simpa using h) hu
theorem spot_row_at {w : World} {b : Nat} {V : Value} {XS : List PlT} (h : w.ownsRow b 42 5 V XS.length (XS.flatMap spotC)) : ∃ A c, V = .slice A XS.length c ∧ XS.length ≤ 9223372036854775807 ∧ ∀ (q : Nat) x, XS[q]? = some x → ∃ g o, A = some ⟨g, o, none⟩ ∧ g < w.heap.size ∧ ∀ (i : Nat) u, (spotC x)[i]? = some u → w.cell? ⟨g, o + q * 5 + i, none⟩ = some u := by
  rcases h.2 with ⟨hv, hn⟩ | ⟨g, cap, cur, hv, hbase, hh, hnc, hm, hcs, htk⟩
  · refine ⟨none, 0, by rw [hv, hn], by omega, fun q x hq => ?_⟩
    have := (List.getElem?_eq_some_iff.1 hq).1
    omega
  · refine ⟨_, cap, hv, by unfold maxLen at hm; omega, fun q x hq => ⟨g, 0, rfl, (Array.getElem?_eq_some_iff.1 hh).1, fun i u hu => ?_⟩⟩
    have := h.cells (g := g) (by rw [hv]; rfl) _ _ (spot_cells hq hu)
    rw [add_at] at this
    simpa [Nat.add_assoc] using this
end Go.Proofs.YtcfdfgbobnocnaaGreatDoor
namespace Go.Proofs.YtcfdfgbobnocnaaGreatDoor
open Go.RowKit

def spP (D : List DefnT) (p : PlT) : List PlT := spotsOf (allP D p)
theorem spP_eq (D : List DefnT) (p : PlT) : spP D p = (if (p.v.kd == 8) = true then [p] else []) ++ (withinL D p).flatMap (spP D) := by
  have e : spotsOf (p :: (withinL D p).flatMap (allP D)) = (if (p.v.kd == 8) = true then [p] else []) ++ spotsOf ((withinL D p).flatMap (allP D)) := by
    unfold spotsOf
    rw [List.filter_cons]
    split <;> rfl
  unfold spP
  rw [allP_eq, e, spots_flat]
theorem spP_n {D : List DefnT} {p : PlT} (h : p.v.kd ≠ 8) : spP D p = (withinL D p).flatMap (spP D) := by
  rw [spP_eq, if_neg (by simpa using h)]
  rfl
theorem spP_8 {D : List DefnT} {n : ByteArray} {l m : Int} {hs : Bool} {v : VT} (h : v.kd = 8) : spP D ⟨n, l, m, hs, v⟩ = [⟨n, l, m, hs, v⟩] := by
  rw [spP_eq, within_none (Or.inl h)]
  have e : ((PlT.v ⟨n, l, m, hs, v⟩).kd == 8) = true := by
    show (v.kd == 8) = true
    rw [h]
    rfl
  rw [if_pos e]
  rfl
theorem spP_0 {D : List DefnT} {n : ByteArray} {l m : Int} {hs : Bool} {v : VT} (h : v.kd = 0) : spP D ⟨n, l, m, hs, v⟩ = [] := by
  rw [spP_n (p := ⟨n, l, m, hs, v⟩) (by show v.kd ≠ 8; omega), within_none (Or.inr h)]
  rfl
theorem spP_one {D : List DefnT} {n : ByteArray} {l m : Int} {hs : Bool} {v : VT} (a : ¬ (v.kd = 8 ∨ v.kd = 0)) (hi : itemB n l m = true) (h6 : v.kd ≠ 6) : spP D ⟨n, l, m, hs, v⟩ = spP D ⟨n, l - 1, m / 2, false, v⟩ := by
  rw [spP_n (p := ⟨n, l, m, hs, v⟩) (fun h => a (Or.inl h)), within_one a hi h6, List.flatMap_cons, List.flatMap_nil, List.append_nil]
theorem spP_els {D : List DefnT} {n : ByteArray} {l m : Int} {hs : Bool} {v : VT} (hi : itemB n l m = true) (h6 : v.kd = 6) : spP D ⟨n, l, m, hs, v⟩ = v.ls.list.flatMap fun x => spP D ⟨n, l - 1, m / 2, false, x⟩ := by
  rw [spP_n (p := ⟨n, l, m, hs, v⟩) (by show v.kd ≠ 8; omega), within_els hi h6]
  unfold elemsL
  rw [List.flatMap_map]
theorem spP_map {D : List DefnT} {n : ByteArray} {l m : Int} {hs : Bool} {v : VT} (hi : ¬ itemB n l m = true) (h7 : v.kd = 7) (hk : knownB (findD D n).1.params v.ms.list = true) : spP D ⟨n, l, m, hs, v⟩ = v.ms.list.flatMap fun y => spP D (memP (findD D n).1.params y) := by
  rw [spP_n (p := ⟨n, l, m, hs, v⟩) (by show v.kd ≠ 8; omega), within_map hi h7, mems_all hk, List.flatMap_map]
  rfl
theorem spP_leaf {D : List DefnT} {n : ByteArray} {l m : Int} {hs : Bool} {v : VT} (hi : ¬ itemB n l m = true) (h7 : v.kd ≠ 7) (h8 : v.kd ≠ 8) : spP D ⟨n, l, m, hs, v⟩ = [] := by
  rw [spP_n (p := ⟨n, l, m, hs, v⟩) h8, within_leaf hi h7]
  rfl
theorem spP_len (D : List DefnT) (p : PlT) : (spP D p).length ≤ 5 * szV p.v := Nat.le_trans (List.length_filter_le ..) (allP_bd D p)
theorem sp_take_els {D : List DefnT} {f : VT → PlT} (hf : ∀ x, (f x).v = x) : ∀ (xs : List VT), (xs.flatMap fun x => spP D (f x)).length ≤ 5 * (xs.map szV).sum
  | [] => by simp
  | x :: xs => by
    have h1 := sp_take_els (D := D) hf xs
    have h2 := spP_len D (f x)
    rw [hf x] at h2
    rw [List.flatMap_cons, List.length_append, List.map_cons, List.sum_cons]
    omega
theorem sumL : ∀ l : VL, (l.list.map szV).sum = szL l
  | .nil => rfl
  | .cons v t => by rw [VL.list, List.map_cons, List.sum_cons, sumL t, szL]
theorem sumM : ∀ m : VM, ((m.list.map (·.2)).map szV).sum = szM m
  | .nil => rfl
  | .cons n v t => by rw [VM.list, List.map_cons, List.map_cons, List.sum_cons, sumM t, szM]
theorem sum_take : ∀ (xs : List Nat) (q : Nat), (xs.take q).sum ≤ xs.sum
  | [], q => by simp
  | x :: xs, 0 => by simp
  | x :: xs, q + 1 => by
    have := sum_take xs q
    rw [List.take_succ_cons, List.sum_cons, List.sum_cons]
    omega
theorem els_len {D : List DefnT} {n : ByteArray} {l m : Int} (ls : VL) (q : Nat) : ((ls.list.take q).flatMap fun x => spP D ⟨n, l, m, false, x⟩).length ≤ 5 * szL ls := by
  have h := sp_take_els (D := D) (f := fun x => ⟨n, l, m, false, x⟩) (fun _ => rfl) (ls.list.take q)
  have h2 := sum_take (ls.list.map szV) q
  rw [← List.map_take, sumL] at h2
  exact Nat.le_trans h (by omega)
theorem sp_take_mems {D : List DefnT} {ps : List VarT} : ∀ (ms : List (ByteArray × VT)), (ms.flatMap fun y => spP D (memP ps y)).length ≤ 5 * ((ms.map (·.2)).map szV).sum
  | [] => by simp
  | y :: ms => by
    have h1 := sp_take_mems (D := D) (ps := ps) ms
    have h2 : (spP D (memP ps y)).length ≤ 5 * szV y.2 := spP_len D (memP ps y)
    rw [List.flatMap_cons, List.length_append, List.map_cons, List.map_cons, List.sum_cons]
    omega
theorem mems_len {D : List DefnT} {ps : List VarT} (ms : VM) (q : Nat) : ((ms.list.take q).flatMap fun y => spP D (memP ps y)).length ≤ 5 * szM ms := by
  have h := sp_take_mems (D := D) (ps := ps) (ms.list.take q)
  have h2 := sum_take ((ms.list.map (·.2)).map szV) q
  rw [← List.map_take, ← List.map_take, sumM] at h2
  exact Nat.le_trans h (by omega)
theorem flat_snoc {α β : Type} {f : α → List β} {xs : List α} {q : Nat} {x : α} (h : xs[q]? = some x) : (xs.take (q + 1)).flatMap f = (xs.take q).flatMap f ++ f x := by
  rw [List.take_add_one, h, List.flatMap_append]
  simp
theorem G_in {D : List DefnT} {p x : PlT} (h : G D p) (hx : x ∈ withinL D p) : G D x := (G_iff.1 h).2 x hx
theorem G_known {D : List DefnT} {n : ByteArray} {l m : Int} {hs : Bool} {v : VT} (h : G D ⟨n, l, m, hs, v⟩) (hi : ¬ itemB n l m = true) (h7 : v.kd = 7) : knownB (findD D n).1.params v.ms.list = true := by
  have h1 := (G_iff.1 h).1
  unfold mapG at h1
  have e1 : itemB n l m = false := by simpa using hi
  have e2 : (v.kd == 7) = true := by rw [h7]; rfl
  dsimp only at h1
  rw [e1, e2] at h1
  simpa using h1
/-- A row of spots of one's own. -/
def OwnR (lo : Nat) (W : World) (V : Value) (xs : List PlT) : Prop := (xs = [] → V = .slice none 0 0) ∧ W.ownsRow lo 42 5 V xs.length (xs.flatMap spotC)
theorem OwnR.nil (lo : Nat) (W : World) : OwnR lo W (.slice none 0 0) [] := ⟨fun _ => rfl, World.ownsRow_nil _ _ _ _⟩
theorem OwnR.low {lo : Nat} {W W' : World} {V : Value} {xs : List PlT} (h : OwnR lo W V xs) (hb : Below W.heap.size W W') : OwnR lo W' V xs := ⟨h.1, own_low h.2 hb⟩
theorem OwnR.mono {lo lo' : Nat} {W : World} {V : Value} {xs : List PlT} (h : OwnR lo W V xs) (hb : lo' ≤ lo) : OwnR lo' W V xs := by
  obtain ⟨h0, h1, h2⟩ := h
  refine ⟨h0, h1, ?_⟩
  rcases h2 with h2 | ⟨g, cap, cur, a1, a2, a3⟩
  · exact .inl h2
  · exact .inr ⟨g, cap, cur, a1, Nat.le_trans hb a2, a3⟩
theorem OwnR.one {lo : Nat} {W : World} {x : PlT} (hb : lo ≤ W.heap.size) : OwnR lo (W.alloc (.cells #[.string x.v.ss, .string x.tn, .int .i64 x.tl, .int .i64 x.tm, .bool x.has] 42)) (.slice (some ⟨W.heap.size, 0, none⟩) 1 1) [x] :=
  ⟨fun h => (by cases h), rfl, .inr ⟨W.heap.size, 1, _, rfl, hb, heap_alloc_new _ _, Nat.le_refl _, by decide, rfl, rfl⟩⟩
theorem spot_one : ∀ {u : Value} {x : PlT}, u ∈ spotC x → u.oneCell' = true := by
  intro u x h
  unfold spotC at h
  simp only [List.mem_cons, List.not_mem_nil, or_false] at h
  rcases h with rfl | rfl | rfl | rfl | rfl <;> rfl
theorem spot_flat_len : ∀ xs : List PlT, (xs.flatMap spotC).length = xs.length * 5
  | [] => rfl
  | x :: xs => by
    have : (spotC x).length = 5 := rfl
    rw [List.flatMap_cons, List.length_append, spot_flat_len xs, List.length_cons, this]
    omega
/-- append of a row of spots to another, at a step of a region that draws its order. -/
theorem step_spots {ops : Array Oper} {o : Oper} {w : World} {a : Act} {K : Act → World → Prop} {Q : Exit → Act → World → Prop} {E : Prop} (hgd : o.guard = none) (s x : Operand)
    (ho : o.op = .call { callee := .builtin .append, args := #[s, x], argTypes := #[35, 35] }) (lo lo' : Nat) (V V' : Value) (xs ys : List PlT) (hs : a.eval s = V) (hx : a.eval x = V') (h1 : OwnR lo w V xs) (h2 : OwnR lo' w V' ys) (hb : xs.length + ys.length ≤ 100000000) (hbase : lo ≤ w.heap.size)
    (h : ∀ V2 w', OwnR lo w' V2 (xs ++ ys) → w.grownBy w' V.ownBlock → K (a.put o.dst V2) w') : if Region.wanted o (yielded ops a.tmps) = true then Oper.wp Tryz.prog o a w K Q else E := by
  have hw : Region.wanted o (yielded ops a.tmps) = true := by simp [Region.wanted, hgd]
  rw [if_pos hw]
  obtain ⟨i, z, hi, hz0, hz1, hz2, hz3⟩ := spot_row
  cases ys with
  | nil =>
    have e := h2.1 rfl
    subst e
    have hrun : (Builtin.append_ #[35, 35] o.type #[V, .slice none 0 0]).run Tryz.prog w = .ok V w := by
      rcases h1.2.2 with ⟨rfl, _⟩ | ⟨g, cap, cur, rfl, _, _, hnc, _⟩
      · simp [Builtin.append_, run_underlying Tryz.underlying35, sizeOf, typeInfo, hi, Builtin.lenOf, Builtin.firstCells]
      · simp [Builtin.append_, run_underlying Tryz.underlying35, sizeOf, typeInfo, hi, Builtin.lenOf, Builtin.firstCells, hnc, storeCells]
    unfold Oper.wp
    simp [execOp, ho, resolve, invoke, builtin, hs, hx, hrun, Result.andThen]
    exact h V w (by rw [List.append_nil]; exact h1) ⟨rfl, rfl, rfl, Nat.le_refl _, fun _ _ _ => rfl⟩
  | cons y ys =>
    obtain ⟨g', cap', e⟩ := ownsRow_succ (k := ys.length) h2.2
    subst e
    refine wp_append_lies w s x 35 ho lo 42 i z 5 56 Tryz.underlying35 hi hz0 hz1 hz2 hz3 (by decide) V xs.length (xs.flatMap spotC) hs h1.2 ⟨g', 0, none⟩ (ys.length + 1) cap' ((y :: ys).flatMap spotC) hx (spot_flat_len _) (fun j u hj => h2.2.cells rfl j u hj) (fun u hu => ?_) (by omega) (by unfold maxLen; simp at hb; omega) (by simp at hb; omega) hbase _ rfl (fun g cap w' k1 k2 k3 k4 => ?_)
    · obtain ⟨q, _, hq⟩ := List.mem_flatMap.1 hu
      exact spot_one hq
    · refine h _ w' ⟨fun hn => ?_, ?_⟩ k2
      · have := congrArg List.length hn
        simp at this
      · rw [List.length_append, List.flatMap_append, List.length_cons]
        exact k1
end Go.Proofs.YtcfdfgbobnocnaaGreatDoor
