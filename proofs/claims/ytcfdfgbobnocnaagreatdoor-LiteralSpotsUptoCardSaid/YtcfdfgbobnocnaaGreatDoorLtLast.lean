/- What stands for a type that may be null, or must be there; what stands for a list, item by item. -/
import Derived.Test.YtcfdfgbobnocnaaGreatDoorLtBound
import Derived.Test.YtcfdfgbobnocnaaGreatDoorLtSpots
import Derived.Test.YtcfdfgbobnocnaaGreatDoorVSize
import Derived.Test.YtcfdfgbobnocnaaGreatDoorDfLightS
import Derived.Test.YtcfdfgbobnocnaaGreatDoorTr
import Derived.Test.YtcfdfgbobnocnaaGreatDoorDfOpen
namespace Go.Proofs.YtcfdfgbobnocnaaGreatDoor
open Go.RowKit

theorem within_sz {D : List DefnT} {p x : PlT} (h : x ∈ withinL D p) : szV x.v ≤ szV p.v := by
  obtain ⟨tn, tl, tm, hs, k, nn, s, l, m⟩ := p
  have hv : szV (.mk k nn s l m) = 1 + szL l + szM m := by rw [szV]
  unfold withinL at h
  dsimp only at h ⊢
  split at h
  · simp at h
  · split at h
    · split at h
      · unfold elemsL at h
        obtain ⟨v, hv', rfl⟩ := List.mem_map.1 h
        have h1 : szV v ≤ szL l := szL_mem hv'
        show szV v ≤ _
        omega
      · obtain rfl := List.mem_singleton.1 h
        exact Nat.le_refl _
    · split at h
      · unfold memsL at h
        obtain ⟨y, hy, hx⟩ := List.mem_flatMap.1 h
        have h1 : szV y.2 ≤ szM m := szM_mem hy
        split at hx
        · obtain rfl := List.mem_singleton.1 hx
          show szV y.2 ≤ _
          omega
        · simp at hx
      · simp at h
theorem allP_sz (D : List DefnT) : ∀ (n : Nat) (p : PlT), msr p ≤ n → ∀ x, x ∈ allP D p → szV x.v ≤ szV p.v
  | n, p, hn, x, hx => by
    rw [allP_eq] at hx
    rcases List.mem_cons.1 hx with rfl | hx
    · exact Nat.le_refl _
    · obtain ⟨y, hy, hx⟩ := List.mem_flatMap.1 hx
      have h1 := within_msr hy
      have h2 := within_sz hy
      cases n with
      | zero => omega
      | succ n => exact Nat.le_trans (allP_sz D n y (by omega) x hx) h2
theorem ls_sz : ∀ l : VL, l.len ≤ szL l
  | .nil => by rw [VL.len]; omega
  | .cons v t => by
    have := ls_sz t
    have := szV_pos v
    rw [VL.len, szL]
    omega
theorem ms_sz : ∀ l : VM, l.len ≤ szM l
  | .nil => by rw [VM.len]; omega
  | .cons n v t => by
    have := ms_sz t
    have := szV_pos v
    rw [VM.len, szM]
    omega
mutual
theorem sz_size : ∀ v : VT, szV v ≤ sizeV v
  | .mk k n s l m => by
    have := szL_size l
    have := szM_size m
    rw [szV, sizeV]
    omega
theorem szL_size : ∀ l : VL, szL l ≤ sizeL l
  | .nil => by rw [szL]; omega
  | .cons v t => by
    have := sz_size v
    have := szL_size t
    rw [szL, sizeL]
    omega
theorem szM_size : ∀ l : VM, szM l ≤ sizeM l
  | .nil => by rw [szM]; omega
  | .cons n v t => by
    have := sz_size v
    have := szM_size t
    rw [szM, sizeM]
    omega
end
theorem slim_all (D : List DefnT) (p : PlT) (h : szV p.v ≤ 1100000) : ∀ x, x ∈ allP D p → SlimP ((allP D p).map (·.tn)) x := fun x hx => by
  have h1 := allP_sz D _ p (Nat.le_refl _) x hx
  obtain ⟨tn, tl, tm, hs, k, nn, s, l, m⟩ := x
  have hv : szV (.mk k nn s l m) = 1 + szL l + szM m := by rw [szV]
  have h2 := ls_sz l
  have h3 := ms_sz m
  have h1 : szV (.mk k nn s l m) ≤ szV p.v := h1
  refine ⟨List.mem_map.2 ⟨_, hx, rfl⟩, ?_, ?_⟩
  · show m.len * 120 ≤ _; omega
  · show l.len * 80 ≤ _; omega
theorem right_gen (S : SchT) (n : ByteArray) (l m : Int) (v : VT) (c0 c1 c2 : Value) (A3 A4 : Option Addr) (k3 k4 : Nat) (w : World) (B : Nat) (hB : B ≤ w.heap.size) (hw : Laid5 w) (hz : SlimS S) (hvz : sizeV v ≤ 1100000) (hnm : n.size ≤ 9223372036854775807)
    (hS : TS w (fun b => b < B) (encSch S) [c0, c1, c2]) (hV : TS w (fun b => b < B) (encV v) [.int .i64 v.kd, .int .i64 v.nn, .string v.ss, .slice A3 v.ls.len k3, .slice A4 v.ms.len k4]) :
    Calls Tryz.prog 13 #[.agg #[c0, c1, c2], .agg #[.string n, .int .i64 l, .int .i64 m], .agg #[.int .i64 v.kd, .int .i64 v.nn, .string v.ss, .slice A3 v.ls.len k3, .slice A4 v.ms.len k4]] w fun e w' => e = .returned (.bool (rightL S.defs ⟨n, l, m, false, v⟩)) ∧ Below w.heap.size w w' := by
  have hs := Nat.le_trans (sz_size v) hvz
  have hb := allP_bd S.defs ⟨n, l, m, false, v⟩
  have hb : (allP S.defs ⟨n, l, m, false, v⟩).length ≤ 5 * szV v := hb
  exact right_any S n l m v c0 c1 c2 A3 A4 k3 k4 w B hB hw hz hvz _ rfl _ (by rw [List.length_map]; unfold maxLen; omega) (slim_all S.defs ⟨n, l, m, false, v⟩ hs) (by omega) hnm hS hV
theorem spots_gen (S : SchT) (n : ByteArray) (l m : Int) (hs : Bool) (v : VT) (c0 c1 c2 : Value) (A3 A4 : Option Addr) (k3 k4 : Nat) (w : World) (B : Nat) (hB : B ≤ w.heap.size) (hz : SlimS S) (hvz : sizeV v ≤ 1100000) (hnm : n.size ≤ 9223372036854775807)
    (hS : TS w (fun b => b < B) (encSch S) [c0, c1, c2]) (hV : TS w (fun b => b < B) (encV v) [.int .i64 v.kd, .int .i64 v.nn, .string v.ss, .slice A3 v.ls.len k3, .slice A4 v.ms.len k4]) :
    Calls Tryz.prog 11 #[.agg #[c0, c1, c2], .agg #[.string n, .int .i64 l, .int .i64 m], .bool hs, .agg #[.int .i64 v.kd, .int .i64 v.nn, .string v.ss, .slice A3 v.ls.len k3, .slice A4 v.ms.len k4]] w fun e w' => ∃ V, e = .returned V ∧ (∃ b, w.heap.size ≤ b ∧ w'.ownsRow b 42 5 V (spotsOf (allP S.defs ⟨n, l, m, hs, v⟩)).length ((spotsOf (allP S.defs ⟨n, l, m, hs, v⟩)).flatMap spotC)) ∧ Below w.heap.size w w' := by
  have hs' := Nat.le_trans (sz_size v) hvz
  have hb := allP_bd S.defs ⟨n, l, m, hs, v⟩
  have hb : (allP S.defs ⟨n, l, m, hs, v⟩).length ≤ 5 * szV v := hb
  exact spots_any S n l m hs v c0 c1 c2 A3 A4 k3 k4 w B hB hz _ rfl _ (by rw [List.length_map]; unfold maxLen; omega) (slim_all S.defs ⟨n, l, m, hs, v⟩ hs') (by omega) hnm hS hV
/-- What may stand for a list: just if it may stand for its item. -/
theorem right_item (D : List DefnT) (n : ByteArray) (l m : Int) (v : VT) (hi : itemB n l m = true) (h6 : v.kd ≠ 6) (h8 : v.kd ≠ 8) (h0 : v.kd ≠ 0) : rightL D ⟨n, l, m, false, v⟩ = rightL D ⟨n, l - 1, m / 2, false, v⟩ := by
  have hw : withinL D ⟨n, l, m, false, v⟩ = [⟨n, l - 1, m / 2, false, v⟩] := by
    unfold withinL
    rw [if_neg (by rintro (h | h); exact h8 h; exact h0 h), if_pos hi, if_neg h6]
  have hr : rightT n.data.toList l m = true := by
    unfold itemB at hi
    rw [Bool.and_eq_true] at hi
    exact hi.1
  have hf : fitsB D n l m v = true := by
    unfold fitsB
    simp [hr, h0, hi, h6]
  unfold rightL
  rw [allP_eq, hw, List.all_cons, List.flatMap_cons, List.flatMap_nil, List.append_nil]
  dsimp only
  rw [hf, Bool.true_and]
/-- seinelaw10.light: some answer, nothing turns. -/
theorem lightv_any (S : SchT) (v : VT) (c0 c1 c2 : Value) (A3 A4 : Option Addr) (k3 k4 : Nat) (w : World) (hS : TS w (fun b => b < w.heap.size) (encSch S) [c0, c1, c2]) (hV : TS w (fun b => b < w.heap.size) (encV v) [.int .i64 v.kd, .int .i64 v.nn, .string v.ss, .slice A3 v.ls.len k3, .slice A4 v.ms.len k4]) :
    Calls Tryz.prog 7 #[.agg #[c0, c1, c2], .agg #[.int .i64 v.kd, .int .i64 v.nn, .string v.ss, .slice A3 v.ls.len k3, .slice A4 v.ms.len k4]] w (SomeB w) := by
  have LT := Lib.hid (fun (wx : World) (h : Below w.heap.size w wx) => light_any S c0 c1 c2 wx w.heap.size h.size (TS.low h hS))
  have SZ := Lib.hid (fun (wx : World) (h : Below w.heap.size w wx) => vsize_any (sizeV v) v (Nat.le_refl _) _ _ _ _ _ wx w.heap.size h.size (ts_vat (TS.low h hV)))
  obtain ⟨A, k, e, _⟩ := sch_cells hS
  injection e with e0 e
  injection e with e1 e
  injection e with e2 e
  subst e0 e1 e2
  generalize W64 (sizeV v) = sz at SZ
  have N0 := Lib.hid (NB.start w (.cells #[.slice A S.defs.length k, .string S.query, .string S.mutation] 24) (.cells #[.int .i64 v.kd, .int .i64 v.nn, .string v.ss, .slice A3 v.ls.len k3, .slice A4 v.ms.len k4] 30))
  clear hS hV
  go_enter Tryz.func7, Tryz.ntmps7
  go_upto_region 1 with fail
  generalize (w.alloc (.cells #[.slice A S.defs.length k, .string S.query, .string S.mutation] 24)).alloc (.cells #[.int .i64 v.kd, .int .i64 v.nn, .string v.ss, .slice A3 v.ls.len k3, .slice A4 v.ms.len k4] 30) = w1 at N0 ⊢
  obtain ⟨x0, x1, x2⟩ := three_cells N0.out.b0
  go_wp2_with fail
  refine (LT.out _ N0.out.low).mono ?_
  rintro e w2 ⟨b, rfl, hb⟩
  have N2 := Lib.hid (N0.out.next hb)
  clear hb x0 x1 x2 N0
  cases b
  · go_wp2_with fail
    go_ret
    exact ⟨_, rfl, N2.out.low⟩
  · obtain ⟨y0, y1, y2, y3, y4⟩ := five_box N2.out.b1
    go_wp2_with fail
    refine (SZ.out _ N2.out.low).mono ?_
    rintro e w3 ⟨rfl, hb⟩
    have N3 := Lib.hid (N2.out.next hb)
    clear hb y0 y1 y2 y3 y4 N2
    go_wp2_with fail
    go_ret
    exact ⟨_, rfl, N3.out.low⟩
end Go.Proofs.YtcfdfgbobnocnaaGreatDoor
namespace Go.Proofs.YtcfdfgbobnocnaaGreatDoor
open Go.ChangeShapes Go.WideShapes Go.ChangeAt Go.RowKit

mutual
theorem vat_vp {w : World} {B : Nat} : ∀ (v : VT) (c0 c1 c2 c3 c4 : Value), VAt w B v c0 c1 c2 c3 c4 → VP w (fun b => b < B) v c0 c1 c2 c3 c4
  | .mk k n s l m, c0, c1, c2, c3, c4, h => by
    unfold VAt at h
    unfold VP
    obtain ⟨h0, h1, h2, hs, ⟨A, c, h3, g3, h4⟩, A', c', h5, g5, h6⟩ := h
    exact ⟨h0, h1, h2, hs, ⟨A, c, h3, g3, lat_lp l A 0 h4⟩, A', c', h5, g5, mat_mp m A' 0 h6⟩
theorem lat_lp {w : World} {B : Nat} : ∀ (l : VL) (A : Option Addr) (j : Nat), LAt w B l A j → LP w (fun b => b < B) l A j
  | .nil, _, _, _ => by unfold LP; trivial
  | .cons v t, A, j, h => by
    unfold LAt at h
    unfold LP
    obtain ⟨⟨b, o, c0, c1, c2, c3, c4, hA, hlt, hf, hv⟩, ht⟩ := h
    exact ⟨⟨b, o, c0, c1, c2, c3, c4, hA, hlt, hf, vat_vp v _ _ _ _ _ hv⟩, lat_lp t A (j + 1) ht⟩
theorem mat_mp {w : World} {B : Nat} : ∀ (l : VM) (A : Option Addr) (j : Nat), MAt w B l A j → MP w (fun b => b < B) l A j
  | .nil, _, _, _ => by unfold MP; trivial
  | .cons nm v t, A, j, h => by
    unfold MAt at h
    unfold MP
    obtain ⟨⟨b, o, c0, c1, c2, c3, c4, hA, hlt, hn, hz, hf, hv⟩, ht⟩ := h
    exact ⟨⟨b, o, c0, c1, c2, c3, c4, hA, hlt, hn, hz, hf, vat_vp v _ _ _ _ _ hv⟩, mat_mp t A (j + 1) ht⟩
end
theorem vat_ts {w : World} {B : Nat} {v : VT} {c0 c1 c2 c3 c4 : Value} (h : VAt w B v c0 c1 c2 c3 c4) : ∃ A3 k3 A4 k4, c0 = .int .i64 v.kd ∧ c1 = .int .i64 v.nn ∧ c2 = .string v.ss ∧ c3 = .slice A3 v.ls.len k3 ∧ c4 = .slice A4 v.ms.len k4 ∧ TS w (fun b => b < B) (encV v) [.int .i64 v.kd, .int .i64 v.nn, .string v.ss, .slice A3 v.ls.len k3, .slice A4 v.ms.len k4] := by
  have ht := vp_ts _ _ _ _ _ _ (vat_vp v _ _ _ _ _ h)
  obtain ⟨k, n, s, l, m⟩ := v
  unfold VAt at h
  obtain ⟨rfl, rfl, rfl, _, ⟨A, c, rfl, _, _⟩, A', c', rfl, _, _⟩ := h
  exact ⟨A, c, A', c', rfl, rfl, rfl, rfl, rfl, ht⟩
set_option maxRecDepth 100000 in
theorem open_tyA {H : Type} {enc : TypeId × Value → H} {W : World} {base : Nat} {v : Value} {d : DataW H} {ps : List MemPlace} (hval : Value.okWide Tryz.prog W .any base 26 v) (hd : DataW.Trod enc Tryz.prog W 0 (fun _ => true) true 26 v d ps) : ∃ (n : ByteArray) (l m : Int), v = .agg #[.string n, .int .i64 l, .int .i64 m] ∧ n.size ≤ 9223372036854775807 := by
  obtain ⟨cs, rfl, hsz⟩ := okWide_struct Tryz.underlying26 hval
  obtain ⟨fuel, hf⟩ := hd
  obtain ⟨L⟩ := cs
  rw [ocTy] at hsz
  match L, hsz with
  | [a, b, c], _ =>
    obtain ⟨n, l, m, rfl, rfl, rfl, hn⟩ := open_ty hf
    exact ⟨n, l, m, rfl, hn⟩
theorem list_tsA {w : World} {B : Nat} {l : VL} {A : Option Addr} {c : Nat} (hl : l.len ≤ 9223372036854775807) (h : LAt w B l A 0) : TS w (fun b => b < B) (encV (.mk 6 0 ⟨#[]⟩ l .nil)) [.int .i64 6, .int .i64 0, .string ⟨#[]⟩, .slice A l.len c, .slice none 0 0] := by
  have hU : VAt w B (.mk 6 0 ⟨#[]⟩ l .nil) (.int .i64 6) (.int .i64 0) (.string ⟨#[]⟩) (.slice A l.len c) (.slice none 0 0) := by
    unfold VAt
    exact ⟨rfl, rfl, rfl, Nat.zero_le _, ⟨A, c, rfl, hl, h⟩, none, 0, rfl, Nat.zero_le _, by unfold MAt; trivial⟩
  exact vp_ts _ _ _ _ _ _ (vat_vp _ _ _ _ _ _ hU)
end Go.Proofs.YtcfdfgbobnocnaaGreatDoor
namespace Go.Proofs.YtcfdfgbobnocnaaGreatDoor
open Go.RowKit

theorem within_none {D : List DefnT} {n : ByteArray} {l m : Int} {hs : Bool} {v : VT} (h : v.kd = 8 ∨ v.kd = 0) : withinL D ⟨n, l, m, hs, v⟩ = [] := by
  unfold withinL
  dsimp only
  rw [if_pos h]
theorem within_els {D : List DefnT} {n : ByteArray} {l m : Int} {hs : Bool} {v : VT} (hi : itemB n l m = true) (h6 : v.kd = 6) : withinL D ⟨n, l, m, hs, v⟩ = elemsL n (l - 1) (m / 2) v.ls.list := by
  have a : ¬ (v.kd = 8 ∨ v.kd = 0) := by omega
  unfold withinL
  dsimp only
  rw [if_neg a, if_pos hi, if_pos h6]
theorem within_one {D : List DefnT} {n : ByteArray} {l m : Int} {hs : Bool} {v : VT} (a : ¬ (v.kd = 8 ∨ v.kd = 0)) (hi : itemB n l m = true) (h6 : v.kd ≠ 6) : withinL D ⟨n, l, m, hs, v⟩ = [⟨n, l - 1, m / 2, false, v⟩] := by
  unfold withinL
  dsimp only
  rw [if_neg a, if_pos hi, if_neg h6]
theorem within_map {D : List DefnT} {n : ByteArray} {l m : Int} {hs : Bool} {v : VT} (hi : ¬ itemB n l m = true) (h7 : v.kd = 7) : withinL D ⟨n, l, m, hs, v⟩ = memsL (findD D n).1.params v.ms.list := by
  have a : ¬ (v.kd = 8 ∨ v.kd = 0) := by omega
  unfold withinL
  dsimp only
  rw [if_neg a, if_neg hi, if_pos h7]
theorem within_leaf {D : List DefnT} {n : ByteArray} {l m : Int} {hs : Bool} {v : VT} (hi : ¬ itemB n l m = true) (h7 : v.kd ≠ 7) : withinL D ⟨n, l, m, hs, v⟩ = [] := by
  unfold withinL
  dsimp only
  rw [if_neg hi, if_neg h7]
  split <;> rfl
theorem fits_els {D : List DefnT} {n : ByteArray} {l m : Int} {v : VT} (hr : rightT n.data.toList l m = true) (hi : itemB n l m = true) (h6 : v.kd = 6) : fitsB D n l m v = mayB n (l - 1) (m / 2) v.ls.list := by
  have k8 : ¬ ((v.kd == 8) = true) := by rw [h6]; decide
  have k0 : ¬ ((v.kd == 0) = true) := by rw [h6]; decide
  have k6 : (v.kd == 6) = true := by rw [h6]; rfl
  unfold fitsB
  rw [if_pos hr, if_neg k8, if_neg k0, if_pos hi, if_pos k6]
theorem fits_flat {D : List DefnT} {n : ByteArray} {l m : Int} {v : VT} (hr : rightT n.data.toList l m = true) (hi : ¬ itemB n l m = true) (h8 : v.kd ≠ 8) (h0 : v.kd ≠ 0) : fitsB D n l m v = namedB D n v := by
  have k8 : ¬ ((v.kd == 8) = true) := by simpa using h8
  have k0 : ¬ ((v.kd == 0) = true) := by simpa using h0
  unfold fitsB
  rw [if_pos hr, if_neg k8, if_neg k0, if_neg hi]
theorem last_bits {m : Int} (h0 : 0 ≤ m) (h1 : m < 32) : bits .andNot .i64 m 1 = 2 * (m / 2) ∧ bits .or .i64 m 1 = 2 * (m / 2) + 1 := by
  have H : ∀ a : Fin 32, bits .andNot .i64 ((a.val : Nat) : Int) 1 = 2 * (((a.val : Nat) : Int) / 2) ∧ bits .or .i64 ((a.val : Nat) : Int) 1 = 2 * (((a.val : Nat) : Int) / 2) + 1 := by decide +kernel
  obtain ⟨k, rfl⟩ := Int.eq_ofNat_of_zero_le h0
  exact H ⟨k, by omega⟩
theorem last_right {n : List UInt8} {l m : Int} (h : rightT n l m = true) : rightT n l (2 * (m / 2)) = true ∧ rightT n l (2 * (m / 2) + 1) = true := by
  obtain ⟨h1, h2, h3, h4, h5⟩ := right_true h
  have hp : (2 : Int) ^ (l.toNat + 1) = 2 ^ l.toNat * 2 := Int.pow_succ _ _
  rw [hp] at h5
  exact ⟨right_of h1 h2 h3 (by omega) (by rw [hp]; omega), right_of h1 h2 h3 (by omega) (by rw [hp]; omega)⟩
theorem last_fits {D : List DefnT} {n : ByteArray} {l m m' : Int} {v : VT} (h : rightT n.data.toList l m = true) (h' : rightT n.data.toList l m' = true) (he : m / 2 = m' / 2) (hv : v.kd ≠ 0) : fitsB D n l m v = fitsB D n l m' v := by
  unfold fitsB itemB
  rw [h, h', he]
  simp [hv]
theorem last_within {D : List DefnT} {n : ByteArray} {l m m' : Int} {v : VT} (h : rightT n.data.toList l m = true) (h' : rightT n.data.toList l m' = true) (he : m / 2 = m' / 2) : withinL D ⟨n, l, m, false, v⟩ = withinL D ⟨n, l, m', false, v⟩ := by
  unfold withinL itemB
  dsimp only
  rw [h, h', he]
theorem last_same {D : List DefnT} {n : ByteArray} {l m m' : Int} {v : VT} (h : rightT n.data.toList l m = true) (h' : rightT n.data.toList l m' = true) (he : m / 2 = m' / 2) (hv : v.kd ≠ 0) : rightL D ⟨n, l, m, false, v⟩ = rightL D ⟨n, l, m', false, v⟩ := by
  unfold rightL
  rw [allP_eq, allP_eq D ⟨n, l, m', false, v⟩, last_within h h' he, List.all_cons, List.all_cons]
  dsimp only
  rw [last_fits h h' he hv]
theorem null_right {D : List DefnT} {n : ByteArray} {l m : Int} {v : VT} (h : rightT n.data.toList l m = true) (hv : v.kd = 0) : rightL D ⟨n, l, m, false, v⟩ = (fitV goodB v && !isB n.data.toList l m) := by
  have hw : withinL D ⟨n, l, m, false, v⟩ = [] := by
    exact within_none (Or.inr hv)
  have hf : fitsB D n l m v = !isB n.data.toList l m := by
    unfold fitsB
    simp [h, hv]
  unfold rightL
  rw [allP_eq, hw, List.flatMap_nil, List.all_cons, List.all_nil, Bool.and_true]
  dsimp only
  rw [hf]
theorem bare_must {D : List DefnT} {n : ByteArray} {l m : Int} (v : VT) (h : rightT n.data.toList l m = true) :
    (rightL D ⟨n, l, 2 * (m / 2) + 1, false, v⟩ = true → rightL D ⟨n, l, 2 * (m / 2), false, v⟩ = true) ∧ (v.kd ≠ 0 → rightL D ⟨n, l, 2 * (m / 2), false, v⟩ = rightL D ⟨n, l, 2 * (m / 2) + 1, false, v⟩) := by
  obtain ⟨h1, h2⟩ := last_right h
  have he : (2 * (m / 2)) / 2 = (2 * (m / 2) + 1) / 2 := by omega
  refine ⟨fun hh => ?_, fun hv => last_same h1 h2 he hv⟩
  by_cases hv : v.kd = 0
  · rw [null_right h2 hv] at hh
    rw [null_right h1 hv]
    unfold isB at hh ⊢
    rw [h1]
    rw [h2] at hh
    have e1 : ((2 * (m / 2)) % 2 == 1) = false := by simp
    have e2 : ((2 * (m / 2) + 1) % 2 == 1) = true := by simp
    rw [e2] at hh
    simp at hh
  · rw [last_same h1 h2 he hv]
    exact hh
theorem zero_right {D : List DefnT} {n : ByteArray} {l m : Int} (h : rightT n.data.toList l m = true) : rightL D ⟨n, l, m, false, .mk 0 0 ⟨#[]⟩ .nil .nil⟩ = !isB n.data.toList l m := by
  rw [null_right h rfl]
  have : fitV goodB (.mk 0 0 ⟨#[]⟩ .nil .nil) = true := by kernel_rfl
  rw [this, Bool.true_and]
theorem fitL_all : ∀ l : VL, fitL goodB l = l.list.all (fitV goodB)
  | .nil => rfl
  | .cons v t => by rw [fitL, VL.list, List.all_cons, fitL_all t]
theorem list_goodL (l : VL) : fitV goodB (.mk 6 0 ⟨#[]⟩ l .nil) = l.list.all (fitV goodB) := by
  rw [fitV, fitM, fitL_all]
  have : soundB 6 0 (⟨#[]⟩ : ByteArray).data.toList l.len VM.nil.len = true := rfl
  rw [this]; simp
theorem all_three (a : Bool) (g f : VT → Bool) (p : VT → Bool) : ∀ xs : List VT, (xs.all g && ((a || !xs.any p) && xs.all f)) = xs.all fun x => (g x && f x) && (a || !p x)
  | [] => by cases a <;> rfl
  | x :: xs => by
    rw [List.all_cons, List.all_cons, List.all_cons, List.any_cons, ← all_three a g f p xs]
    cases a <;> cases g x <;> cases f x <;> cases p x <;> simp
theorem all_flat {α β : Type} (f : α → List β) (p : β → Bool) : ∀ xs : List α, (xs.flatMap f).all p = xs.all fun x => (f x).all p
  | [] => rfl
  | x :: xs => by rw [List.flatMap_cons, List.all_append, List.all_cons, all_flat f p xs]
theorem list_up {n : List UInt8} {l m : Int} (h : rightT n l m = true) (hl : l ≠ 4) : rightT n (l + 1) (m * 2) = true := by
  obtain ⟨h1, h2, h3, h4, h5⟩ := right_true h
  have e : (l + 1).toNat = l.toNat + 1 := by omega
  have hp : (2 : Int) ^ (l.toNat + 1 + 1) = 2 ^ (l.toNat + 1) * 2 := by rw [Int.pow_succ]
  exact right_of h1 (by omega) (by omega) (by omega) (by rw [e, hp]; omega)
theorem right_list (D : List DefnT) (n : ByteArray) (l m : Int) (ls : VL) (h : rightT n.data.toList l m = true) (hl : l ≠ 4) : rightL D ⟨n, l + 1, m * 2, false, .mk 6 0 ⟨#[]⟩ ls .nil⟩ = ls.list.all fun x => rightL D ⟨n, l, m, false, x⟩ && (decide (l = 0) || !aloneB x) := by
  have hu := list_up h hl
  have hs := right_small h
  have hi : itemB n (l + 1) (m * 2) = true := by unfold itemB; rw [hu, Bool.true_and, decide_eq_true_eq]; omega
  have e1 : l + 1 - 1 = l := by omega
  have e2 : m * 2 / 2 = m := by omega
  have hw : withinL D ⟨n, l + 1, m * 2, false, .mk 6 0 ⟨#[]⟩ ls .nil⟩ = ls.list.map fun x => ⟨n, l, m, false, x⟩ := by
    rw [within_els hi rfl, e1, e2]
    rfl
  have hf : fitsB D n (l + 1) (m * 2) (.mk 6 0 ⟨#[]⟩ ls .nil) = (decide (l = 0) || !ls.list.any aloneB) := by
    rw [fits_els hu hi rfl, e1, e2]
    unfold mayB
    have : itemB n l m = !decide (l = 0) := by
      unfold itemB
      rw [h, Bool.true_and]
      by_cases h0 : l = 0 <;> simp [h0]
    rw [this, Bool.not_not]
    rfl
  have hr : ∀ x, rightL D ⟨n, l, m, false, x⟩ = (fitV goodB x && (allP D ⟨n, l, m, false, x⟩).all fun y => fitsB D y.tn y.tl y.tm y.v) := fun _ => rfl
  have e : (ls.list.all fun x => rightL D ⟨n, l, m, false, x⟩ && (decide (l = 0) || !aloneB x)) = ls.list.all fun x => (fitV goodB x && (allP D ⟨n, l, m, false, x⟩).all fun y => fitsB D y.tn y.tl y.tm y.v) && (decide (l = 0) || !aloneB x) := by
    congr 1
  rw [e, ← all_three]
  unfold rightL
  rw [allP_eq, hw, List.all_cons, all_flat, List.all_map]
  dsimp only
  rw [hf, list_goodL]
  rfl
theorem flat_right (D : List DefnT) (n : ByteArray) (m : Int) (ls : VL) (h : rightT n.data.toList 0 m = true) : rightL D ⟨n, 0, m, false, .mk 6 0 ⟨#[]⟩ ls .nil⟩ = false := by
  have hi : itemB n 0 m = false := by unfold itemB; simp
  have hn : namedB D n (.mk 6 0 ⟨#[]⟩ ls .nil) = false := by
    unfold namedB
    dsimp only [VT.kd]
    repeat' split
    all_goals simp
  have hf : fitsB D n 0 m (.mk 6 0 ⟨#[]⟩ ls .nil) = false := by
    rw [fits_flat h (by rw [hi]; decide) (by show (6 : Int) ≠ 8; decide) (by show (6 : Int) ≠ 0; decide), hn]
  unfold rightL
  rw [allP_eq, List.all_cons]
  dsimp only
  rw [hf]
  simp
end Go.Proofs.YtcfdfgbobnocnaaGreatDoor
