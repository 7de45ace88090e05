/- literal.Right and Spots at every value of moderate size. -/
import Derived.Test.YtmamgaifpjgfkaaGreatDoorLtBound
import Derived.Test.YtmamgaifpjgfkaaGreatDoorLtSpots
import Derived.Test.YtmamgaifpjgfkaaGreatDoorVSize
import Derived.Test.YtmamgaifpjgfkaaGreatDoorDfLightS
namespace Go.Proofs.YtmamgaifpjgfkaaGreatDoor
open Go.RowKit

theorem within_sz {D : List DefnT} {p x : PlT} (h : x ∈ withinL D p) : szV x.v ≤ szV p.v := by
  obtain ⟨tn, tl, tm, hs, k, nn, s, l, m⟩ := p
  have hv : szV (.mk k nn s l m) = 1 + szL l + szM m := by rw [szV]
  unfold withinL at h
  dsimp only at h ⊢
  split at h
  · simp at h
  · split at h
    · split at h
      · unfold elemsL at h
        obtain ⟨v, hv', rfl⟩ := List.mem_map.1 h
        have h1 : szV v ≤ szL l := szL_mem hv'
        show szV v ≤ _
        omega
      · obtain rfl := List.mem_singleton.1 h
        exact Nat.le_refl _
    · split at h
      · unfold memsL at h
        obtain ⟨y, hy, hx⟩ := List.mem_flatMap.1 h
        have h1 : szV y.2 ≤ szM m := szM_mem hy
        split at hx
        · obtain rfl := List.mem_singleton.1 hx
          show szV y.2 ≤ _
          omega
        · simp at hx
      · simp at h
theorem allP_sz (D : List DefnT) : ∀ (n : Nat) (p : PlT), msr p ≤ n → ∀ x, x ∈ allP D p → szV x.v ≤ szV p.v
  | n, p, hn, x, hx => by
    rw [allP_eq] at hx
    rcases List.mem_cons.1 hx with rfl | hx
    · exact Nat.le_refl _
    · obtain ⟨y, hy, hx⟩ := List.mem_flatMap.1 hx
      have h1 := within_msr hy
      have h2 := within_sz hy
      cases n with
      | zero => omega
      | succ n => exact Nat.le_trans (allP_sz D n y (by omega) x hx) h2
theorem ls_sz : ∀ l : VL, l.len ≤ szL l
  | .nil => by rw [VL.len]; omega
  | .cons v t => by
    have := ls_sz t
    have := szV_pos v
    rw [VL.len, szL]
    omega
theorem ms_sz : ∀ l : VM, l.len ≤ szM l
  | .nil => by rw [VM.len]; omega
  | .cons n v t => by
    have := ms_sz t
    have := szV_pos v
    rw [VM.len, szM]
    omega
mutual
theorem sz_size : ∀ v : VT, szV v ≤ sizeV v
  | .mk k n s l m => by
    have := szL_size l
    have := szM_size m
    rw [szV, sizeV]
    omega
theorem szL_size : ∀ l : VL, szL l ≤ sizeL l
  | .nil => by rw [szL]; omega
  | .cons v t => by
    have := sz_size v
    have := szL_size t
    rw [szL, sizeL]
    omega
theorem szM_size : ∀ l : VM, szM l ≤ sizeM l
  | .nil => by rw [szM]; omega
  | .cons n v t => by
    have := sz_size v
    have := szM_size t
    rw [szM, sizeM]
    omega
end
theorem slim_all (D : List DefnT) (p : PlT) (h : szV p.v ≤ 1100000) : ∀ x, x ∈ allP D p → SlimP ((allP D p).map (·.tn)) x := fun x hx => by
  have h1 := allP_sz D _ p (Nat.le_refl _) x hx
  obtain ⟨tn, tl, tm, hs, k, nn, s, l, m⟩ := x
  have hv : szV (.mk k nn s l m) = 1 + szL l + szM m := by rw [szV]
  have h2 := ls_sz l
  have h3 := ms_sz m
  have h1 : szV (.mk k nn s l m) ≤ szV p.v := h1
  refine ⟨List.mem_map.2 ⟨_, hx, rfl⟩, ?_, ?_⟩
  · show m.len * 120 ≤ _; omega
  · show l.len * 80 ≤ _; omega
theorem right_gen (S : SchT) (n : ByteArray) (l m : Int) (v : VT) (c0 c1 c2 : Value) (A3 A4 : Option Addr) (k3 k4 : Nat) (w : World) (B : Nat) (hB : B ≤ w.heap.size) (hw : Laid5 w) (hz : SlimS S) (hvz : sizeV v ≤ 1100000) (hnm : n.size ≤ 9223372036854775807)
    (hS : TS w (fun b => b < B) (encSch S) [c0, c1, c2]) (hV : TS w (fun b => b < B) (encV v) [.int .i64 v.kd, .int .i64 v.nn, .string v.ss, .slice A3 v.ls.len k3, .slice A4 v.ms.len k4]) :
    Calls Tryz.prog 15 #[.agg #[c0, c1, c2], .agg #[.string n, .int .i64 l, .int .i64 m], .agg #[.int .i64 v.kd, .int .i64 v.nn, .string v.ss, .slice A3 v.ls.len k3, .slice A4 v.ms.len k4]] w fun e w' => e = .returned (.bool (rightL S.defs ⟨n, l, m, false, v⟩)) ∧ Below w.heap.size w w' := by
  have hs := Nat.le_trans (sz_size v) hvz
  have hb := allP_bd S.defs ⟨n, l, m, false, v⟩
  have hb : (allP S.defs ⟨n, l, m, false, v⟩).length ≤ 5 * szV v := hb
  exact right_any S n l m v c0 c1 c2 A3 A4 k3 k4 w B hB hw hz hvz _ rfl _ (by rw [List.length_map]; unfold maxLen; omega) (slim_all S.defs ⟨n, l, m, false, v⟩ hs) (by omega) hnm hS hV
theorem spots_gen (S : SchT) (n : ByteArray) (l m : Int) (hs : Bool) (v : VT) (c0 c1 c2 : Value) (A3 A4 : Option Addr) (k3 k4 : Nat) (w : World) (B : Nat) (hB : B ≤ w.heap.size) (hz : SlimS S) (hvz : sizeV v ≤ 1100000) (hnm : n.size ≤ 9223372036854775807)
    (hS : TS w (fun b => b < B) (encSch S) [c0, c1, c2]) (hV : TS w (fun b => b < B) (encV v) [.int .i64 v.kd, .int .i64 v.nn, .string v.ss, .slice A3 v.ls.len k3, .slice A4 v.ms.len k4]) :
    Calls Tryz.prog 13 #[.agg #[c0, c1, c2], .agg #[.string n, .int .i64 l, .int .i64 m], .bool hs, .agg #[.int .i64 v.kd, .int .i64 v.nn, .string v.ss, .slice A3 v.ls.len k3, .slice A4 v.ms.len k4]] w fun e w' => ∃ V, e = .returned V ∧ (∃ b, w.heap.size ≤ b ∧ w'.ownsRow b 42 5 V (spotsOf (allP S.defs ⟨n, l, m, hs, v⟩)).length ((spotsOf (allP S.defs ⟨n, l, m, hs, v⟩)).flatMap spotC)) ∧ Below w.heap.size w w' := by
  have hs' := Nat.le_trans (sz_size v) hvz
  have hb := allP_bd S.defs ⟨n, l, m, hs, v⟩
  have hb : (allP S.defs ⟨n, l, m, hs, v⟩).length ≤ 5 * szV v := hb
  exact spots_any S n l m hs v c0 c1 c2 A3 A4 k3 k4 w B hB hz _ rfl _ (by rw [List.length_map]; unfold maxLen; omega) (slim_all S.defs ⟨n, l, m, hs, v⟩ hs') (by omega) hnm hS hV
/-- What may stand for a list: just if it may stand for its item. -/
theorem right_item (D : List DefnT) (n : ByteArray) (l m : Int) (v : VT) (hi : itemB n l m = true) (h6 : v.kd ≠ 6) (h8 : v.kd ≠ 8) (h0 : v.kd ≠ 0) : rightL D ⟨n, l, m, false, v⟩ = rightL D ⟨n, l - 1, m / 2, false, v⟩ := by
  have hw : withinL D ⟨n, l, m, false, v⟩ = [⟨n, l - 1, m / 2, false, v⟩] := by
    unfold withinL
    rw [if_neg (by rintro (h | h); exact h8 h; exact h0 h), if_pos hi, if_neg h6]
  have hr : rightT n.data.toList l m = true := by
    unfold itemB at hi
    rw [Bool.and_eq_true] at hi
    exact hi.1
  have hf : fitsB D n l m v = true := by
    unfold fitsB
    simp [hr, h0, hi, h6]
  unfold rightL
  rw [allP_eq, hw, List.all_cons, List.flatMap_cons, List.flatMap_nil, List.append_nil]
  dsimp only
  rw [hf, Bool.true_and]
/-- seinelaw10.light: some answer, nothing turns. -/
theorem lightv_any (S : SchT) (v : VT) (c0 c1 c2 : Value) (A3 A4 : Option Addr) (k3 k4 : Nat) (w : World) (hS : TS w (fun b => b < w.heap.size) (encSch S) [c0, c1, c2]) (hV : TS w (fun b => b < w.heap.size) (encV v) [.int .i64 v.kd, .int .i64 v.nn, .string v.ss, .slice A3 v.ls.len k3, .slice A4 v.ms.len k4]) :
    Calls Tryz.prog 9 #[.agg #[c0, c1, c2], .agg #[.int .i64 v.kd, .int .i64 v.nn, .string v.ss, .slice A3 v.ls.len k3, .slice A4 v.ms.len k4]] w (SomeB w) := by
  have LT := Lib.hid (fun (wx : World) (h : Below w.heap.size w wx) => light_any S c0 c1 c2 wx w.heap.size h.size (TS.low h hS))
  have SZ := Lib.hid (fun (wx : World) (h : Below w.heap.size w wx) => vsize_any (sizeV v) v (Nat.le_refl _) _ _ _ _ _ wx w.heap.size h.size (ts_vat (TS.low h hV)))
  obtain ⟨A, k, e, _⟩ := sch_cells hS
  injection e with e0 e
  injection e with e1 e
  injection e with e2 e
  subst e0 e1 e2
  generalize W64 (sizeV v) = sz at SZ
  have N0 := Lib.hid (NB.start w (.cells #[.slice A S.defs.length k, .string S.query, .string S.mutation] 24) (.cells #[.int .i64 v.kd, .int .i64 v.nn, .string v.ss, .slice A3 v.ls.len k3, .slice A4 v.ms.len k4] 30))
  clear hS hV
  go_enter Tryz.func9, Tryz.ntmps9
  go_upto_region 1 with fail
  generalize (w.alloc (.cells #[.slice A S.defs.length k, .string S.query, .string S.mutation] 24)).alloc (.cells #[.int .i64 v.kd, .int .i64 v.nn, .string v.ss, .slice A3 v.ls.len k3, .slice A4 v.ms.len k4] 30) = w1 at N0 ⊢
  obtain ⟨x0, x1, x2⟩ := three_cells N0.out.b0
  go_wp2_with fail
  refine (LT.out _ N0.out.low).mono ?_
  rintro e w2 ⟨b, rfl, hb⟩
  have N2 := Lib.hid (N0.out.next hb)
  clear hb x0 x1 x2 N0
  cases b
  · go_wp2_with fail
    go_ret
    exact ⟨_, rfl, N2.out.low⟩
  · obtain ⟨y0, y1, y2, y3, y4⟩ := five_box N2.out.b1
    go_wp2_with fail
    refine (SZ.out _ N2.out.low).mono ?_
    rintro e w3 ⟨rfl, hb⟩
    have N3 := Lib.hid (N2.out.next hb)
    clear hb y0 y1 y2 y3 y4 N2
    go_wp2_with fail
    go_ret
    exact ⟨_, rfl, N3.out.low⟩
end Go.Proofs.YtmamgaifpjgfkaaGreatDoor
