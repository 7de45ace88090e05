/- What a walk over variables keeps: the map of those that were seen, the row of those that were found, in captured variables. -/
import Derived.Test.YtcfdfgbobnocnaaGreatDoorLtOpen
import Derived.Test.YtcfdfgbobnocnaaGreatDoorDfPoss
import Derived.Test.YtcfdfgbobnocnaaGreatDoorTNum
import Derived.Maps.Own
import Derived.Maps.Views
namespace Go.Proofs.YtcfdfgbobnocnaaGreatDoor
open Go.RowKit

theorem W64_fits {n : Nat} (h : n ≤ 1048576) : W64 n = (n : Int) := by
  unfold W64
  simp only [IntKind.wrap_i64]
  omega
theorem lightz_any (S : SchT) (v : VT) (hz : sizeV v ≤ 1048576) (c0 c1 c2 : Value) (A3 A4 : Option Addr) (k3 k4 : Nat) (w : World) (hS : TS w (fun b => b < w.heap.size) (encSch S) [c0, c1, c2]) (hV : TS w (fun b => b < w.heap.size) (encV v) [.int .i64 v.kd, .int .i64 v.nn, .string v.ss, .slice A3 v.ls.len k3, .slice A4 v.ms.len k4]) :
    Calls Tryz.prog 7 #[.agg #[c0, c1, c2], .agg #[.int .i64 v.kd, .int .i64 v.nn, .string v.ss, .slice A3 v.ls.len k3, .slice A4 v.ms.len k4]] w fun e w' => ∃ b, e = .returned (.bool b) ∧ (b = true → sizeV v ≤ 1000) ∧ Below w.heap.size w w' := by
  have LT := Lib.hid (fun (wx : World) (h : Below w.heap.size w wx) => light_any S c0 c1 c2 wx w.heap.size h.size (TS.low h hS))
  have SZ := Lib.hid (fun (wx : World) (h : Below w.heap.size w wx) => vsize_any (sizeV v) v (Nat.le_refl _) _ _ _ _ _ wx w.heap.size h.size (ts_vat (TS.low h hV)))
  rw [W64_fits (by omega)] at SZ
  obtain ⟨A, k, e, _⟩ := sch_cells hS
  injection e with e0 e
  injection e with e1 e
  injection e with e2 e
  subst e0 e1 e2
  generalize sizeV v = sz at SZ ⊢
  have N0 := Lib.hid (NB.start w (.cells #[.slice A S.defs.length k, .string S.query, .string S.mutation] 24) (.cells #[.int .i64 v.kd, .int .i64 v.nn, .string v.ss, .slice A3 v.ls.len k3, .slice A4 v.ms.len k4] 30))
  clear hS hV hz
  go_enter Tryz.func7, Tryz.ntmps7
  go_upto_region 1 with fail
  generalize (w.alloc (.cells #[.slice A S.defs.length k, .string S.query, .string S.mutation] 24)).alloc (.cells #[.int .i64 v.kd, .int .i64 v.nn, .string v.ss, .slice A3 v.ls.len k3, .slice A4 v.ms.len k4] 30) = w1 at N0 ⊢
  obtain ⟨x0, x1, x2⟩ := three_cells N0.out.b0
  go_wp2_with fail
  refine (LT.out _ N0.out.low).mono ?_
  rintro e w2 ⟨b, rfl, hb⟩
  have N2 := Lib.hid (N0.out.next hb)
  clear hb x0 x1 x2 N0
  cases b
  · go_wp2_with fail
    go_ret
    exact ⟨_, rfl, (fun h => (by cases h)), N2.out.low⟩
  · obtain ⟨y0, y1, y2, y3, y4⟩ := five_box N2.out.b1
    go_wp2_with fail
    refine (SZ.out _ N2.out.low).mono ?_
    rintro e w3 ⟨rfl, hb⟩
    have N3 := Lib.hid (N2.out.next hb)
    clear hb y0 y1 y2 y3 y4 N2
    go_wp2_with fail
    go_ret
    exact ⟨_, rfl, (fun h => (by have := of_decide_eq_true h; omega)), N3.out.low⟩
/-- A row of spots, as it is read. -/
theorem spot_cells : ∀ {XS : List PlT} {q i : Nat} {x : PlT} {u : Value}, XS[q]? = some x → (spotC x)[i]? = some u → (XS.flatMap spotC)[q * 5 + i]? = some u
  | [], q, i, x, u, h, _ => by cases q <;> simp at h
  | y :: t, 0, i, x, u, h, hu => by
    have : y = x := by simpa using h
    subst this
    have hi : i < (spotC y).length := (List.getElem?_eq_some_iff.1 hu).1
    rw [List.flatMap_cons, Nat.zero_mul, Nat.zero_add, List.getElem?_append_left hi, hu]
  | y :: t, q + 1, i, x, u, h, hu => by
    have h5 : (spotC y).length = 5 := rfl
    rw [List.flatMap_cons, List.getElem?_append_right (by rw [h5]; omega), h5, show (q + 1) * 5 + i - 5 = q * 5 + i by omega]
    exact spot_cells (XS := t) (by simpa using h) hu
theorem spot_row_at {w : World} {b : Nat} {V : Value} {XS : List PlT} (h : w.ownsRow b 42 5 V XS.length (XS.flatMap spotC)) : ∃ A c, V = .slice A XS.length c ∧ XS.length ≤ 9223372036854775807 ∧ ∀ (q : Nat) x, XS[q]? = some x → ∃ g o, A = some ⟨g, o, none⟩ ∧ g < w.heap.size ∧ ∀ (i : Nat) u, (spotC x)[i]? = some u → w.cell? ⟨g, o + q * 5 + i, none⟩ = some u := by
  rcases h.2 with ⟨hv, hn⟩ | ⟨g, cap, cur, hv, hbase, hh, hnc, hm, hcs, htk⟩
  · refine ⟨none, 0, by rw [hv, hn], by omega, fun q x hq => ?_⟩
    have := (List.getElem?_eq_some_iff.1 hq).1
    omega
  · refine ⟨_, cap, hv, by unfold maxLen at hm; omega, fun q x hq => ⟨g, 0, rfl, (Array.getElem?_eq_some_iff.1 hh).1, fun i u hu => ?_⟩⟩
    have := h.cells (g := g) (by rw [hv]; rfl) _ _ (spot_cells hq hu)
    rw [add_at] at this
    simpa [Nat.add_assoc] using this
end Go.Proofs.YtcfdfgbobnocnaaGreatDoor
namespace Go.Proofs.YtcfdfgbobnocnaaGreatDoor
open Go.RowKit

/-- A row of values in a block below B or not below lo. -/
def RowX (w : World) (lo B : Nat) (l : VL) (A : Option Addr) : Prop := ∀ (j : Nat) v, l.get j = some v → ∃ b o c0 c1 c2 c3 c4, A = some ⟨b, o, none⟩ ∧ (b < B ∨ lo ≤ b) ∧ b < w.heap.size ∧ Five w b (o + j * 5) c0 c1 c2 c3 c4 ∧ VAt w B v c0 c1 c2 c3 c4
theorem RowX.of_list {w : World} {lo B : Nat} {l : VL} {A : Option Addr} (hB : B ≤ w.heap.size) (h : LAt w B l A 0) : RowX w lo B l A := fun j v hv => by
  obtain ⟨b, o, c0, c1, c2, c3, c4, hA, hlt, hf, hV⟩ := LAt.at h hv
  rw [Nat.zero_add] at hf
  exact ⟨b, o, c0, c1, c2, c3, c4, hA, .inl hlt, Nat.lt_of_lt_of_le hlt hB, hf, hV⟩
theorem RowX.none {w : World} {lo B : Nat} {A : Option Addr} : RowX w lo B .nil A := fun j v hj => by simp [VL.get] at hj
theorem RB.rowx {base n G B lo : Nat} {l : VL} {w : World} (h : RB base n G B l w n) (hl : l.len = n) (hG : lo ≤ G := by omega) : RowX w lo B l (some ⟨G, 0, none⟩) := by
  intro j v hj
  obtain ⟨b, o, c0, c1, c2, c3, c4, hA, hlt, hf, hV⟩ := RB.row h hl j v hj
  refine ⟨b, o, c0, c1, c2, c3, c4, hA, .inr ?_, hlt, hf, hV⟩
  injection hA with e
  injection e with e
  omega
def WithinX (v : VT) : Prop := ∀ (c0 c1 c2 c3 c4 : Value) (w : World) (B : Nat), B ≤ w.heap.size → VAt w B v c0 c1 c2 c3 c4 →
  Calls Tryz.prog 35 #[.agg #[c0, c1, c2, c3, c4]] w fun e w' => ∃ A c, e = .returned (.slice A v.kids.len c) ∧ RowX w' w.heap.size B v.kids A ∧ Below w.heap.size w w'
theorem withinx_said {w' w : World} {lo B : Nat} {v : VT} {l : VL} {A : Option Addr} {c : Nat} (hk : v.kids = l) (hr : RowX w' lo B l A) (hb : Below w.heap.size w w') : ∃ A' c', Ending.returned (.slice A l.len c) = .returned (.slice A' v.kids.len c') ∧ RowX w' lo B v.kids A' ∧ Below w.heap.size w w' :=
  ⟨A, c, by rw [hk], by rw [hk]; exact hr, hb⟩
set_option maxRecDepth 100000 in
set_option maxHeartbeats 4000000 in
theorem within_x (v : VT) (hz : sizeV v ≤ 9000) : WithinX v := by
  intro c0 c1 c2 c3 c4 w B hB hv
  obtain ⟨k, n, s, l, m⟩ := v
  have hml : m.len ≤ 9000 := by rw [sizeV] at hz; have := lenM_le m; omega
  unfold VAt at hv
  obtain ⟨rfl, rfl, rfl, _, ⟨A, c, rfl, hl, hL⟩, A', c', rfl, hm, hM⟩ := hv
  have hb0 : Below w.heap.size w (w.alloc (.cells #[.int .i64 k, .int .i64 n, .string s, .slice A l.len c, .slice A' m.len c'] 30)) := (Below.refl _ _).alloc (Nat.le_refl _) _
  have HB := Lib.hid hb0
  have HB0 := Lib.hid hB
  have HL := Lib.hid hL
  have HM := Lib.hid hM
  clear hL hM hB hb0 hz
  by_cases k6 : k = 6
  · subst k6
    go_enter Tryz.func35, Tryz.ntmps35
    go_wp2_with fail
    go_ret
    exact withinx_said (kids_list _ _ _ _) (RowX.of_list (Nat.le_trans HB0.out HB.out.size) (LAt.below (HB.out.mono HB0.out) _ _ _ HL.out)) HB.out
  · by_cases k7 : k = 7
    · subst k7
      obtain ⟨i0, hi, hz0, hz1, hz2⟩ := info_parts info_val
      clear k6
      go_enter Tryz.func35, Tryz.ntmps35
      have hbox4 : Hid ((w.alloc (.cells #[.int .i64 7, .int .i64 n, .string s, .slice A l.len c, .slice A' m.len c'] 30)).cell? ⟨w.heap.size, 4, none⟩ = some (.slice A' m.len c')) := Lib.hid (by rw [World.cell?_alloc_at _ _ _ _ rfl]; rfl)
      go_wp2_with (at_make; refine wpList_make_full _ rfl _ _ 27 rfl w.heap.size 30 i0 _ 5 Tryz.underlying27 hi hz0 hz1 .i64 .i64 _ _ m.len rfl rfl (by first | rfl | omega) (by first | rfl | omega) (by rw [hz2]; omega) (by unfold maxLen; omega) (by simp) ?_; intro w2 hown hgr; have hb2 := (Below.refl _ _).grown hgr (Nat.le_refl _) (fun k h => by cases h); have hc4 : w2.cell? ⟨w.heap.size, 4, none⟩ = some (.slice A' m.len c') := (hb2.cell (p := ⟨w.heap.size, 4, none⟩) (by simp)).trans hbox4.out; have HB2 := Lib.hid (HB.out.trans (hb2.mono HB.out.size)); have HO := Lib.hid hown; clear hown hgr hb2)
      have hsz : (w.alloc (.cells #[.int .i64 7, .int .i64 n, .string s, .slice A l.len c, .slice A' m.len c'] 30)).heap.size = w.heap.size + 1 := by simp
      rw [hsz] at HO
      clear hsz hc4 hbox4 HB
      go_loopg [21] m.len (fun g i wx => ∃ q : Nat, q + g = m.len ∧ i = .int .i64 q ∧ Below w.heap.size w wx ∧ Aside (RB w.heap.size m.len (w.heap.size + 1) B m.vals wx q))
      case atStart => exact ⟨0, by omega, rfl, HB2.out, vaside ⟨_, HO.out, fun j v hj => absurd hj (Nat.not_lt_zero _)⟩⟩
      case round =>
        obtain ⟨q, hq, rfl, hb, HA⟩ := hrel
        have HBB := Lib.hid hb
        clear hb HO HB2
        cases gk with
        | zero =>
          obtain rfl : q = m.len := by omega
          go_wp2_with fail
          go_ret
          exact ⟨some ⟨w.heap.size + 1, 0, none⟩, m.len, by rw [kids_map, VM.len_vals]; rfl, by rw [kids_map]; exact RB.rowx HA (VM.len_vals m), HBB.out⟩
        | succ g =>
          have hqn : q < m.len := by omega
          have hqn' : (q : Int) < (m.len : Int) := by omega
          obtain ⟨⟨nm, v⟩, hv⟩ := VM.get_lt hqn
          obtain ⟨b, o, d0, d1, d2, d3, d4, rfl, hblt, hnm, _, hF, hV⟩ := MAt.at (MAt.below (HBB.out.mono HB0.out) _ _ _ HM.out) hv
          rw [Nat.zero_add] at hF hnm
          have hV0 := Lib.hid hV
          have HV := Lib.hid (VM.get_vals hv)
          obtain ⟨vk, vn, vs, vl, vm⟩ := v
          unfold VAt at hV
          obtain ⟨rfl, rfl, rfl, _, ⟨A3, c3', rfl, _, _⟩, A4, c4', rfl, _, _⟩ := hV
          obtain ⟨f0, f1, f2, f3, f4⟩ := hF
          obtain ⟨xs, hown, hfill⟩ := HA
          have hlen := hown.1
          obtain ⟨z0, hz0'⟩ : ∃ z, xs[q * 5]? = some z := ⟨_, List.getElem?_eq_getElem (by omega)⟩
          obtain ⟨z1, hz1'⟩ : ∃ z, xs[q * 5 + 1]? = some z := ⟨_, List.getElem?_eq_getElem (by omega)⟩
          obtain ⟨z2, hz2'⟩ : ∃ z, xs[q * 5 + 2]? = some z := ⟨_, List.getElem?_eq_getElem (by omega)⟩
          obtain ⟨z3, hz3'⟩ : ∃ z, xs[q * 5 + 3]? = some z := ⟨_, List.getElem?_eq_getElem (by omega)⟩
          obtain ⟨z4, hz4'⟩ : ∃ z, xs[q * 5 + 4]? = some z := ⟨_, List.getElem?_eq_getElem (by omega)⟩
          have hat := fun i u (hi : xs[i]? = some u) => (World.ownsRow.cellAt hown i (by rw [← hlen]; exact (List.getElem?_eq_some_iff.1 hi).1)).trans hi
          have y0 := hat _ _ hz0'
          have y1 := hat _ _ hz1'
          have y2 := hat _ _ hz2'
          have y3 := hat _ _ hz3'
          have y4 := hat _ _ hz4'
          have hGlt : w.heap.size + 1 < wr.heap.size := (hown.lt _ rfl).2
          have q0 := not_frozen hown (q * 5)
          have q1 := not_frozen hown (q * 5 + 1)
          have q2 := not_frozen hown (q * 5 + 2)
          have q3 := not_frozen hown (q * 5 + 3)
          have q4 := not_frozen hown (q * 5 + 4)
          have HO := Lib.hid hown
          have HFI := Lib.hid hfill
          have HZ := Lib.hid (And.intro hz0' (And.intro hz1' (And.intro hz2' (And.intro hz3' hz4'))))
          clear hat hz0' hz1' hz2' hz3' hz4' hown hfill hlen hv
          go_wp2_with fail
          go_roundg g
          case measure => omega
          case rel => exact ⟨q + 1, by omega, by go_num, stored_below HBB.out (Nat.le_succ _), vaside (stored_filled HB0.out HBB.out (Nat.le_succ _) HO.out HFI.out hqn HV.out hV0.out)⟩
    · have e6 : (k == 6) = false := by simpa using k6
      have e7 : (k == 7) = false := by simpa using k7
      have hk := Lib.hid (kids_none k n s l m k6 k7)
      clear k6 k7
      go_enter Tryz.func35, Tryz.ntmps35
      go_wp2_with fail
      go_ret
      exact withinx_said (c := 0) (A := none) hk.out (fun j v hj => by simp [VL.get] at hj) HB.out
end Go.Proofs.YtcfdfgbobnocnaaGreatDoor
namespace Go.Proofs.YtcfdfgbobnocnaaGreatDoor
open Go.RowKit

theorem allTo_room : ∀ {l : VL} {j : Nat} {v : VT}, l.get j = some v → (allTo l j).length + sizeV v ≤ sizeL l
  | .nil, _, _, h => by simp [VL.get] at h
  | .cons u t, 0, v, h => by
    have : u = v := by simpa [VL.get] using h
    subst this
    rw [allTo_zero, sizeL]; simp
  | .cons u t, j + 1, v, h => by
    have := allTo_room (l := t) (j := j) (v := v) h
    have := all_len u
    rw [allTo, sizeL, List.length_append]; omega
theorem plain_boolV_inv {P : Program} {e : TypeId} (he : P.underlying e = some .bool) {v : Value} {z : DataW Unit × List MemPlace} (h : plainElem P e v = some z) : ∃ x, v = .bool x ∧ z = (.lit (.bool x), []) := by
  unfold plainElem at h
  rw [he] at h
  cases v <;> simp at h
  exact ⟨_, rfl, h.symm⟩
/-- The datum holds true just for these texts. -/
def SeenV (D : DataW Unit) (out : List ByteArray) : Prop := Maps.IsMap D ∧ ∀ s : ByteArray, D.atKey (.string s.data.toList) (.lit (.bool false)) = .lit (.bool (hasV out s))
theorem SeenV.nil : SeenV (.map []) [] := ⟨Maps.isMap_empty, fun _ => rfl⟩
theorem SeenV.put {D : DataW Unit} {out : List ByteArray} (h : SeenV D out) (s : ByteArray) : SeenV (D.put (.string s.data.toList) (.lit (.bool true))) (out ++ [s]) := by
  refine ⟨h.1.put _ _, fun t => ?_⟩
  by_cases e : t.data.toList = s.data.toList
  · rw [e, Maps.atKey_put_same h.1 (by trivial)]
    have : t = s := ByteArray.ext (Array.toList_inj.1 e)
    subst this
    rw [show hasV (out ++ [t]) t = true from hasV_iff.2 (by simp)]
  · rw [Maps.atKey_put_other (fun e' => e (by injection e')), h.2 t]
    have : hasV (out ++ [s]) t = hasV out t := by
      unfold hasV
      rw [List.any_append]
      have : (s.data.toList == t.data.toList) = false := beq_eq_false_iff_ne.2 (fun e' => e e'.symm)
      simp only [List.any_cons, List.any_nil, this, Bool.or_false]
    rw [this]
/-- The state: out variable, map, seen variable, visit variable at b + 1 .. b + 4; the row is none of them. -/
def SeenAt (b : Nat) (w : World) (V : Value) (out : List ByteArray) : Prop :=
  w.heap[b + 1]? = some (.cells #[V] 38 (0, 0)) ∧ w.heap[b + 3]? = some (.cells #[.map (some (b + 2))] 75 (0, 0)) ∧
  w.heap[b + 4]? = some (.cells #[.func (.func 34) #[] #[.pointer (some ⟨b + 3, 0, none⟩), .pointer (some ⟨b + 1, 0, none⟩), .pointer (some ⟨b + 4, 0, none⟩)]] 76 (0, 0)) ∧
  w.ownsRow (b + 5) 9 1 V out.length (out.map .string) ∧ ∃ D : DataW Unit, w.ownsMap Tryz.prog 9 (plainElem Tryz.prog 4) (b + 2) out.length D ∧ SeenV D out
/-- All blocks but these stand. -/
structure Kept3 (b : Nat) (w w' : World) (V V' : Value) : Prop where
  os : w'.os = w.os
  tape : w'.tape = w.tape
  output : w'.output = w.output
  size : w.heap.size ≤ w'.heap.size
  block : ∀ k, k < w.heap.size → k ≠ b + 1 → k ≠ b + 2 → V.ownBlock ≠ some k → w'.heap[k]? = w.heap[k]?
  own : ∀ k, V'.ownBlock = some k → V.ownBlock = some k ∨ w.heap.size ≤ k
theorem Kept3.of_below {b : Nat} {w w' : World} {V : Value} (h : Below w.heap.size w w') : Kept3 b w w' V V := ⟨h.os, h.tape, h.output, h.size, fun k hk _ _ _ => h.block k hk, fun _ hk => .inl hk⟩
theorem Kept3.trans {b : Nat} {w w1 w2 : World} {V V1 V2 : Value} (h : Kept3 b w w1 V V1) (h' : Kept3 b w1 w2 V1 V2) : Kept3 b w w2 V V2 := by
  have hs := h.size
  refine ⟨h'.os.trans h.os, h'.tape.trans h.tape, h'.output.trans h.output, Nat.le_trans hs h'.size, fun k hk h1 h2 h3 => ?_, fun k hk => ?_⟩
  · refine (h'.block k (by omega) h1 h2 (fun e => ?_)).trans (h.block k hk h1 h2 h3)
    rcases h.own k e with h | h
    · exact h3 h
    · omega
  · rcases h'.own k hk with h1 | h1
    · exact h.own k h1
    · exact .inr (Nat.le_trans hs h1)
theorem SeenAt.low {b : Nat} {w : World} {V : Value} {out : List ByteArray} (h : SeenAt b w V out) : b + 4 < w.heap.size := by
  have := h.2.2.1
  exact (Array.getElem?_eq_some_iff.1 this).1
theorem SeenAt.own {b : Nat} {w : World} {V : Value} {out : List ByteArray} (h : SeenAt b w V out) : ∀ k, V.ownBlock = some k → b + 5 ≤ k ∧ k < w.heap.size := h.2.2.2.1.lt
theorem Kept3.below {b B : Nat} {w w' : World} {V V' : Value} {out : List ByteArray} (h : Kept3 b w w' V V') (hs : SeenAt b w V out) (hB : B ≤ b + 1) : Below B w w' :=
  ⟨h.os, h.tape, h.output, h.size, fun k hk => h.block k (by have := hs.low; omega) (by omega) (by omega) (fun e => by have := (hs.own k e).1; omega)⟩
theorem SeenAt.below {b : Nat} {w w' : World} {V : Value} {out : List ByteArray} (h : SeenAt b w V out) (hb : Below w.heap.size w w') : SeenAt b w' V out := by
  have hl := h.low
  obtain ⟨h1, h2, h3, h4, D, h5, h6⟩ := h
  exact ⟨(hb.block _ (by omega)).trans h1, (hb.block _ (by omega)).trans h2, (hb.block _ (by omega)).trans h3, own_low h4 hb, D, h5.kept (row := none) ⟨hb.os, hb.tape, hb.output, hb.size, fun k hk _ => hb.block k hk⟩ (by simp), h6⟩
/-- The row of what stands within, kept. -/
def RowN (b : Nat) (w : World) (V : Value) (B : Nat) (l : VL) (A : Option Addr) : Prop := ∀ (j : Nat) v, l.get j = some v → ∃ g o c0 c1 c2 c3 c4, A = some ⟨g, o, none⟩ ∧ g ≠ b + 1 ∧ g ≠ b + 2 ∧ V.ownBlock ≠ some g ∧ g < w.heap.size ∧ Five w g (o + j * 5) c0 c1 c2 c3 c4 ∧ VAt w B v c0 c1 c2 c3 c4
theorem RowX.seen {b B : Nat} {w w' : World} {V : Value} {out : List ByteArray} {l : VL} {A : Option Addr} (h : RowX w' w.heap.size B l A) (hs : SeenAt b w V out) (hB : B ≤ b) : RowN b w' V B l A := fun j v hv => by
  obtain ⟨g, o, c0, c1, c2, c3, c4, hA, hg, hlt, hf, hV⟩ := h j v hv
  have hl := hs.low
  exact ⟨g, o, c0, c1, c2, c3, c4, hA, by omega, by omega, fun e => by have := hs.own g e; omega, hlt, hf, hV⟩
theorem RowN.kept {b B : Nat} {w w' : World} {V V' : Value} {out : List ByteArray} {l : VL} {A : Option Addr} (h : RowN b w V B l A) (hs : SeenAt b w V out) (hk : Kept3 b w w' V V') (hB : B ≤ b) : RowN b w' V' B l A := fun j v hv => by
  obtain ⟨g, o, c0, c1, c2, c3, c4, hA, g1, g2, g3, hlt, hf, hV⟩ := h j v hv
  have hgk := hk.block g hlt g1 g2 g3
  have hc := fun i => World.cell?_of_block (a := ⟨g, i, none⟩) (w := w) (w' := w') hgk
  refine ⟨g, o, c0, c1, c2, c3, c4, hA, g1, g2, fun e => ?_, Nat.lt_of_lt_of_le hlt hk.size, ⟨(hc _).trans hf.1, (hc _).trans hf.2.1, (hc _).trans hf.2.2.1, (hc _).trans hf.2.2.2.1, (hc _).trans hf.2.2.2.2⟩, VAt.below (hk.below hs (by omega)) _ _ _ _ _ _ hV⟩
  rcases hk.own g e with h | h
  · exact g3 h
  · omega
theorem one_cell {w : World} {g : Nat} {u : Value} {t : TypeId} (h : w.heap[g]? = some (.cells #[u] t (0, 0))) : w.cell? ⟨g, 0, none⟩ = some u ∧ w.frozen? ⟨g, 0, none⟩ = false := by
  constructor
  · simp only [World.cell?, h]; rfl
  · simp [World.frozen?, h]
set_option maxRecDepth 100000 in
theorem zero_boolV (w : World) : (zeroValue 4).run Tryz.prog w = .ok (.bool false) w := by rfl
set_option maxRecDepth 100000 in
/-- What the map says of a name. -/
theorem SeenAt.look {b : Nat} {w : World} {V : Value} {out : List ByteArray} (h : SeenAt b w V out) (s : ByteArray) (hs : s.size ≤ maxLen) : (Instr.lookup 75 (.map (some (b + 2))) (.string s) false).run Tryz.prog w = .ok (.bool (hasV out s)) w := by
  obtain ⟨_, _, _, _, D, hm, hD⟩ := h
  have hkey := WideMaps.keyOf_string_mk (P := Tryz.prog) Tryz.underlying9 hs
  obtain ⟨v, ps, hrun, hv⟩ := hm.lookup (Maps.string_keyed Tryz.underlying9) Tryz.underlying75 (zero_boolV w) (plainElem_bool Tryz.underlying4 false) hkey
  obtain ⟨x, rfl, hx⟩ := plain_boolV_inv Tryz.underlying4 hv
  have e : x = hasV out s := by
    have e1 := congrArg Prod.fst hx
    rw [hD.2 s] at e1
    injection e1 with e1
    injection e1 with e1
    exact e1.symm
  rw [hrun, e]
/-- A name more: behind the map's store, the append and the variable's. -/
theorem SeenAt.more {b : Nat} {w w1 w2 : World} {V V2 : Value} {out : List ByteArray} {s : ByteArray} {D : DataW Unit} {o : Obj} (h : SeenAt b w V out) (hD : SeenV D out)
    (hm : w1.ownsMap Tryz.prog 9 (plainElem Tryz.prog 4) (b + 2) (out.length + 1) (D.put (.string s.data.toList) (.lit (.bool true)))) (hg1 : w.grownBy w1 (some (b + 2)))
    (hown : w2.ownsRow (b + 5) 9 1 V2 (out.length + 1) (out.map .string ++ [.string s])) (hg2 : (w1.alloc o).grownBy w2 V.ownBlock) (hV2 : ∀ k, V2.ownBlock = some k → V.ownBlock = some k ∨ w1.heap.size ≤ k) :
    SeenAt b (w2.setCell ⟨b + 1, 0, none⟩ V2) V2 (out ++ [s]) ∧ Kept3 b w (w2.setCell ⟨b + 1, 0, none⟩ V2) V V2 := by
  have hl := h.low
  have ho := h.own
  have hs1 := hg1.size
  have hs2 := hg2.size
  have hal : (w1.alloc o).heap.size = w1.heap.size + 1 := by simp
  obtain ⟨h1, h2, h3, h4, _⟩ := h
  have hk : ∀ k, k < w.heap.size → k ≠ b + 2 → V.ownBlock ≠ some k → w2.heap[k]? = w.heap[k]? := fun k hk e2 e3 =>
    (hg2.block k (by omega) (fun e => e3 e.symm)).trans ((Below.heap_alloc _ _ _ (by omega)).trans (hg1.block k hk (fun e => e2 (by injection e))))
  have hV : ∀ k, k ≤ b + 4 → V.ownBlock ≠ some k := fun k hk e => by have := (ho k e).1; omega
  have hset : ∀ k, k ≠ b + 1 → (w2.setCell ⟨b + 1, 0, none⟩ V2).heap[k]? = w2.heap[k]? := fun k hk => Below.heap_setCell _ _ _ _ hk
  have hV2' : V2.ownBlock ≠ some (b + 1) := fun e => by have := (hown.lt _ e).1; omega
  have hset2 : w2.grownBy (w2.setCell ⟨b + 1, 0, none⟩ V2) (some (b + 1)) := ⟨rfl, rfl, rfl, by simp [World.setCell], fun k _ hk => Below.heap_setCell _ _ _ _ (fun e => hk (by rw [e]))⟩
  refine ⟨⟨?_, ?_, ?_, ?_, D.put (.string s.data.toList) (.lit (.bool true)), ?_, hD.put s⟩, ?_⟩
  · exact heap_setCell_same _ (b + 1) 0 _ _ _ ((hk (b + 1) (by omega) (by omega) (hV _ (by omega))).trans h1)
  · exact (hset _ (by omega)).trans ((hk _ (by omega) (by omega) (hV _ (by omega))).trans h2)
  · exact (hset _ (by omega)).trans ((hk _ (by omega) (by omega) (hV _ (by omega))).trans h3)
  · rw [List.length_append, List.map_append]
    exact hown.kept hset2 (.inr hV2')
  · rw [List.length_append]
    exact ((hm.alloc o).kept hg2 (fun e => hV (b + 2) (by omega) e.symm)).kept hset2 (by intro e; injection e; omega)
  · refine ⟨?_, ?_, ?_, ?_, fun k hkk e1 e2 e3 => (hset k e1).trans (hk k hkk e2 e3), fun k e => ?_⟩
    · exact hg2.os.trans hg1.os
    · exact hg2.tape.trans hg1.tape
    · exact hg2.output.trans hg1.output
    · have := hset2.size; omega
    · rcases hV2 k e with h | h
      · exact .inl h
      · exact .inr (by omega)
end Go.Proofs.YtcfdfgbobnocnaaGreatDoor
