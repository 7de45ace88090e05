/- The walks of Item, List, Must, Bare, Is and Sub, of the landed package and of the document's own answer. -/
import Derived.Test.YtcfdfgbobnocnaaGreatDoorWRight
import Derived.Deep.WholeRow
import Derived.Laws.BitsAllLaws
import Derived.Laws.BitsLemmas
namespace Go.Proofs.YtcfdfgbobnocnaaGreatDoor
open Go.RowKit

theorem below_new' (w : World) (o : Obj) : Below w.heap.size w (w.alloc o) := (Below.refl _ _).alloc (Nat.le_refl _) _
theorem ty_cells {w : World} {b : Nat} {x y z : Value} (h : w.heap[b]? = some (.cells #[x, y, z] 26 (0, 0))) : w.cell? ⟨b, 0, none⟩ = some x ∧ w.cell? ⟨b, 1, none⟩ = some y ∧ w.cell? ⟨b, 2, none⟩ = some z ∧ w.frozen? ⟨b, 0, none⟩ = false ∧ w.frozen? ⟨b, 1, none⟩ = false ∧ w.frozen? ⟨b, 2, none⟩ = false := by
  simp [World.cell?, World.frozen?, h]
theorem ty_set {w : World} {b : Nat} {x y z x' y' z' : Value} (h : w.heap[b]? = some (.cells #[x, y, z] 26 (0, 0))) : (((w.setCell ⟨b, 0, none⟩ x').setCell ⟨b, 1, none⟩ y').setCell ⟨b, 2, none⟩ z').heap[b]? = some (.cells #[x', y', z'] 26 (0, 0)) := by
  simp [World.setCell, Array.getElem?_modify, h]
theorem wset_other {w : World} {b c : Nat} {j : Nat} {v : Value} {o : Obj} (h : w.heap[b]? = some o) (hne : c ≠ b) : (w.setCell ⟨c, j, none⟩ v).heap[b]? = some o := by
  simp [World.setCell, Array.getElem?_modify, h, hne]
/-- The end of a function that answers a type (out of a cell) and a Boolean. -/
theorem ret_ty {R : Ending → World → Prop} {fn : Func} {a : Act} {W : World} {x y z : Value} {b : Nat} (hf : fn.results = #[.cell 2 26, .tmp 3]) (h2 : a.tmps.getD 2 undef = .pointer (some ⟨b, 0, none⟩)) (hd : a.defers = [])
    (hc : W.heap[b]? = some (.cells #[x, y, z] 26 (0, 0))) (hR : R (.returned (.tuple #[.agg #[x, y, z], a.tmps.getD 3 undef])) W) : bodyPost Tryz.prog fn R .ret a W := by
  have hl : (loadVar 26 ⟨b, 0, none⟩).run Tryz.prog W = .ok (.agg #[x, y, z]) W :=
    run_loadVar_row W b 26 26 #[x, y, z] (0, 0) _ hc Tryz.underlying26 rfl (by kernel_rfl)
  refine bodyPost_ret ?_ hd hR
  have h2' : a.tmps[2]?.getD undef = .pointer (some ⟨b, 0, none⟩) := by rw [← h2]; simp
  simp [results, hf, h2', asAddr, hl]
theorem ret_ty1 {R : Ending → World → Prop} {fn : Func} {a : Act} {W : World} {x y z : Value} {b : Nat} (hf : fn.results = #[.cell 2 26]) (h2 : a.tmps.getD 2 undef = .pointer (some ⟨b, 0, none⟩)) (hd : a.defers = [])
    (hc : W.heap[b]? = some (.cells #[x, y, z] 26 (0, 0))) (hR : R (.returned (.agg #[x, y, z])) W) : bodyPost Tryz.prog fn R .ret a W := by
  have hl : (loadVar 26 ⟨b, 0, none⟩).run Tryz.prog W = .ok (.agg #[x, y, z]) W :=
    run_loadVar_row W b 26 26 #[x, y, z] (0, 0) _ hc Tryz.underlying26 rfl (by kernel_rfl)
  refine bodyPost_ret ?_ hd hR
  have h2' : a.tmps[2]?.getD undef = .pointer (some ⟨b, 0, none⟩) := by rw [← h2]; simp
  simp [results, hf, h2', asAddr, hl]
def noT : Value := .tuple #[.agg #[.string ⟨#[]⟩, .int .i64 0, .int .i64 0], .bool false]
def yesT (n : ByteArray) (l m : Int) : Value := .tuple #[.agg #[.string n, .int .i64 l, .int .i64 m], .bool true]
/-- What Item answers. -/
def itemV (n : ByteArray) (l m : Int) : Value := if rightT n.data.toList l m = true ∧ l ≠ 0 then yesT n (l - 1) (m / 2) else noT
def listV (n : ByteArray) (l m : Int) : Value := if rightT n.data.toList l m = true ∧ l ≠ 4 then yesT n (l + 1) (m * 2) else noT

theorem new_two (w : World) (o o' : Obj) : ((w.alloc o).alloc o').heap[w.heap.size]? = some o ∧ ((w.alloc o).alloc o').heap[w.heap.size + 1]? = some o' := by
  have h2 := heap_alloc_last (w.alloc o) o'
  have e : (w.alloc o).heap.size = w.heap.size + 1 := by simp
  rw [e] at h2
  refine ⟨?_, h2⟩
  exact ((below_new' (w.alloc o) o').block w.heap.size (by omega)).trans (heap_alloc_last w o)
/-- Two new blocks, kept by what a call does. -/
theorem wtwo_new {w w2 : World} {x y z x' y' z' : Value} (hb : Below ((w.alloc (.cells #[x, y, z] 26)).alloc (.cells #[x', y', z'] 26)).heap.size ((w.alloc (.cells #[x, y, z] 26)).alloc (.cells #[x', y', z'] 26)) w2) :
    w2.heap[w.heap.size]? = some (.cells #[x, y, z] 26 (0, 0)) ∧ w2.heap[w.heap.size + 1]? = some (.cells #[x', y', z'] 26 (0, 0)) ∧ Below w.heap.size w w2 := by
  obtain ⟨h0, h1⟩ := new_two w (.cells #[x, y, z] 26) (.cells #[x', y', z'] 26)
  have e : ((w.alloc (.cells #[x, y, z] 26)).alloc (.cells #[x', y', z'] 26)).heap.size = w.heap.size + 1 + 1 := by simp
  refine ⟨(hb.block w.heap.size (by omega)).trans h0, (hb.block (w.heap.size + 1) (by omega)).trans h1, below_new.trans ((below_new.mono (by simp)).trans (hb.mono (by omega)))⟩
theorem one_new {w w2 : World} {x y z : Value} (hb : Below (w.alloc (.cells #[x, y, z] 26)).heap.size (w.alloc (.cells #[x, y, z] 26)) w2) : w2.heap[w.heap.size]? = some (.cells #[x, y, z] 26 (0, 0)) ∧ Below w.heap.size w w2 :=
  ⟨(hb.block w.heap.size (by simp)).trans (heap_alloc_last _ _), below_new.trans (hb.mono (by simp))⟩
theorem set3 {B : Nat} {w w2 : World} {b : Nat} (h : Below B w w2) (hb : B ≤ b) (x y z : Value) : Below B w (((w2.setCell ⟨b, 0, none⟩ x).setCell ⟨b, 1, none⟩ y).setCell ⟨b, 2, none⟩ z) := ((h.setCell hb _).setCell hb _).setCell hb _

/-- What Must and Bare answer. -/
def mustV (n : ByteArray) (l m : Int) : Value := if rightT n.data.toList l m = true then .agg #[.string n, .int .i64 l, .int .i64 (bits .or .i64 m 1)] else .agg #[.string n, .int .i64 l, .int .i64 m]
def bareV (n : ByteArray) (l m : Int) : Value := if rightT n.data.toList l m = true then .agg #[.string n, .int .i64 l, .int .i64 (bits .andNot .i64 m 1)] else .agg #[.string n, .int .i64 l, .int .i64 m]

set_option maxRecDepth 100000 in
set_option maxHeartbeats 2000000 in
theorem item_any (n : ByteArray) (l m : Int) (w : World) (hn : n.size ≤ 9223372036854775807) : Calls Tryz.prog 50 #[.agg #[.string n, .int .i64 l, .int .i64 m]] w fun e w' => e = .returned (itemV n l m) ∧ Below w.heap.size w w' := by
  have HR := fun w => Lib.hid (wright_any n l m w hn)
  cases hr : rightT n.data.toList l m
  · have hv : Hid (itemV n l m = noT) := Lib.hid (by simp [itemV, hr])
    rw [hr] at HR
    clear hr
    go_enter Tryz.func50, Tryz.ntmps50
    go_wp2_with fail
    refine (HR _).out.mono ?_
    rintro e w2 ⟨rfl, hb2⟩
    obtain ⟨b0, b1, HB⟩ := wtwo_new hb2
    obtain ⟨a0, a1, a2, g0, g1, g2⟩ := ty_cells b0
    obtain ⟨c0, c1, c2, f0, f1, f2⟩ := ty_cells b1
    have H0 := Lib.hid b0
    have H1 := Lib.hid b1
    have HB' := Lib.hid HB
    clear b0 b1 HB hb2 HR
    go_wp2_with fail
    refine ret_ty rfl rfl rfl (ty_set H1.out) ⟨?_, set3 HB'.out (Nat.le_succ _) _ _ _⟩
    rw [hv.out]
    rfl
  · by_cases hl : l = 0
    · have hv : Hid (itemV n l m = noT) := Lib.hid (by simp [itemV, hl])
      subst hl
      rw [hr] at HR
      clear hr
      go_enter Tryz.func50, Tryz.ntmps50
      go_wp2_with fail
      refine (HR _).out.mono ?_
      rintro e w2 ⟨rfl, hb2⟩
      obtain ⟨b0, b1, HB⟩ := wtwo_new hb2
      obtain ⟨a0, a1, a2, g0, g1, g2⟩ := ty_cells b0
      obtain ⟨c0, c1, c2, f0, f1, f2⟩ := ty_cells b1
      have H0 := Lib.hid b0
      have H1 := Lib.hid b1
      have HB' := Lib.hid HB
      clear b0 b1 HB hb2 HR
      go_wp2_with fail
      refine ret_ty rfl rfl rfl (ty_set H1.out) ⟨?_, set3 HB'.out (Nat.le_succ _) _ _ _⟩
      rw [hv.out]
      rfl
    · have hv : Hid (itemV n l m = yesT n (l - 1) (m / 2)) := Lib.hid (by simp [itemV, hl, hr])
      obtain ⟨s1, s2, s3, s4⟩ := right_small hr
      have e0 : (l == 0) = false := by simpa using hl
      rw [hr] at HR
      clear hr
      go_enter Tryz.func50, Tryz.ntmps50
      go_wp2_with fail
      refine (HR _).out.mono ?_
      rintro e w2 ⟨rfl, hb2⟩
      obtain ⟨b0, b1, HB⟩ := wtwo_new hb2
      obtain ⟨a0, a1, a2, g0, g1, g2⟩ := ty_cells b0
      obtain ⟨c0, c1, c2, f0, f1, f2⟩ := ty_cells b1
      have H0 := Lib.hid b0
      have H1 := Lib.hid b1
      have HB' := Lib.hid HB
      clear b0 b1 HB hb2 HR
      go_wp2_with fail
      refine ret_ty rfl rfl rfl (ty_set (wset_other (wset_other H1.out (by omega)) (by omega))) ⟨?_, set3 ((HB'.out.setCell (Nat.le_refl _) _).setCell (Nat.le_refl _) _) (Nat.le_succ _) _ _ _⟩
      rw [hv.out]
      rfl
set_option maxRecDepth 100000 in
set_option maxHeartbeats 2000000 in
theorem ritem_any (n : ByteArray) (l m : Int) (w : World) (hn : n.size ≤ 9223372036854775807) : Calls Tryz.prog 29 #[.agg #[.string n, .int .i64 l, .int .i64 m]] w fun e w' => e = .returned (itemV n l m) ∧ Below w.heap.size w w' := by
  have HR := fun w => Lib.hid (rtright_any n l m w hn)
  cases hr : rightT n.data.toList l m
  · have hv : Hid (itemV n l m = noT) := Lib.hid (by simp [itemV, hr])
    rw [hr] at HR
    clear hr
    go_enter Tryz.func29, Tryz.ntmps29
    go_wp2_with fail
    refine (HR _).out.mono ?_
    rintro e w2 ⟨rfl, hb2⟩
    obtain ⟨b0, b1, HB⟩ := wtwo_new hb2
    obtain ⟨a0, a1, a2, g0, g1, g2⟩ := ty_cells b0
    obtain ⟨c0, c1, c2, f0, f1, f2⟩ := ty_cells b1
    have H0 := Lib.hid b0
    have H1 := Lib.hid b1
    have HB' := Lib.hid HB
    clear b0 b1 HB hb2 HR
    go_wp2_with fail
    refine ret_ty rfl rfl rfl (ty_set H1.out) ⟨?_, set3 HB'.out (Nat.le_succ _) _ _ _⟩
    rw [hv.out]
    rfl
  · by_cases hl : l = 0
    · have hv : Hid (itemV n l m = noT) := Lib.hid (by simp [itemV, hl])
      subst hl
      rw [hr] at HR
      clear hr
      go_enter Tryz.func29, Tryz.ntmps29
      go_wp2_with fail
      refine (HR _).out.mono ?_
      rintro e w2 ⟨rfl, hb2⟩
      obtain ⟨b0, b1, HB⟩ := wtwo_new hb2
      obtain ⟨a0, a1, a2, g0, g1, g2⟩ := ty_cells b0
      obtain ⟨c0, c1, c2, f0, f1, f2⟩ := ty_cells b1
      have H0 := Lib.hid b0
      have H1 := Lib.hid b1
      have HB' := Lib.hid HB
      clear b0 b1 HB hb2 HR
      go_wp2_with fail
      refine ret_ty rfl rfl rfl (ty_set H1.out) ⟨?_, set3 HB'.out (Nat.le_succ _) _ _ _⟩
      rw [hv.out]
      rfl
    · have hv : Hid (itemV n l m = yesT n (l - 1) (m / 2)) := Lib.hid (by simp [itemV, hl, hr])
      obtain ⟨s1, s2, s3, s4⟩ := right_small hr
      have e0 : (l == 0) = false := by simpa using hl
      rw [hr] at HR
      clear hr
      go_enter Tryz.func29, Tryz.ntmps29
      go_wp2_with fail
      refine (HR _).out.mono ?_
      rintro e w2 ⟨rfl, hb2⟩
      obtain ⟨b0, b1, HB⟩ := wtwo_new hb2
      obtain ⟨a0, a1, a2, g0, g1, g2⟩ := ty_cells b0
      obtain ⟨c0, c1, c2, f0, f1, f2⟩ := ty_cells b1
      have H0 := Lib.hid b0
      have H1 := Lib.hid b1
      have HB' := Lib.hid HB
      clear b0 b1 HB hb2 HR
      go_wp2_with fail
      refine ret_ty rfl rfl rfl (ty_set H1.out) ⟨?_, set3 HB'.out (Nat.le_succ _) _ _ _⟩
      rw [hv.out]
      rfl
set_option maxRecDepth 100000 in
set_option maxHeartbeats 2000000 in
theorem list_any (n : ByteArray) (l m : Int) (w : World) (hn : n.size ≤ 9223372036854775807) : Calls Tryz.prog 21 #[.agg #[.string n, .int .i64 l, .int .i64 m]] w fun e w' => e = .returned (listV n l m) ∧ Below w.heap.size w w' := by
  have HR := fun w => Lib.hid (wright_any n l m w hn)
  cases hr : rightT n.data.toList l m
  · have hv : Hid (listV n l m = noT) := Lib.hid (by simp [listV, hr])
    rw [hr] at HR
    clear hr
    go_enter Tryz.func21, Tryz.ntmps21
    go_wp2_with fail
    refine (HR _).out.mono ?_
    rintro e w2 ⟨rfl, hb2⟩
    obtain ⟨b0, b1, HB⟩ := wtwo_new hb2
    obtain ⟨a0, a1, a2, g0, g1, g2⟩ := ty_cells b0
    obtain ⟨c0, c1, c2, f0, f1, f2⟩ := ty_cells b1
    have H0 := Lib.hid b0
    have H1 := Lib.hid b1
    have HB' := Lib.hid HB
    clear b0 b1 HB hb2 HR
    go_wp2_with fail
    refine ret_ty rfl rfl rfl (ty_set H1.out) ⟨?_, set3 HB'.out (Nat.le_succ _) _ _ _⟩
    rw [hv.out]
    rfl
  · by_cases hl : l = 4
    · have hv : Hid (listV n l m = noT) := Lib.hid (by simp [listV, hl])
      subst hl
      rw [hr] at HR
      clear hr
      go_enter Tryz.func21, Tryz.ntmps21
      go_wp2_with fail
      refine (HR _).out.mono ?_
      rintro e w2 ⟨rfl, hb2⟩
      obtain ⟨b0, b1, HB⟩ := wtwo_new hb2
      obtain ⟨a0, a1, a2, g0, g1, g2⟩ := ty_cells b0
      obtain ⟨c0, c1, c2, f0, f1, f2⟩ := ty_cells b1
      have H0 := Lib.hid b0
      have H1 := Lib.hid b1
      have HB' := Lib.hid HB
      clear b0 b1 HB hb2 HR
      go_wp2_with fail
      refine ret_ty rfl rfl rfl (ty_set H1.out) ⟨?_, set3 HB'.out (Nat.le_succ _) _ _ _⟩
      rw [hv.out]
      rfl
    · have hv : Hid (listV n l m = yesT n (l + 1) (m * 2)) := Lib.hid (by simp [listV, hl, hr])
      obtain ⟨s1, s2, s3, s4⟩ := right_small hr
      have e0 : (l == 4) = false := by simpa using hl
      rw [hr] at HR
      clear hr
      go_enter Tryz.func21, Tryz.ntmps21
      go_wp2_with fail
      refine (HR _).out.mono ?_
      rintro e w2 ⟨rfl, hb2⟩
      obtain ⟨b0, b1, HB⟩ := wtwo_new hb2
      obtain ⟨a0, a1, a2, g0, g1, g2⟩ := ty_cells b0
      obtain ⟨c0, c1, c2, f0, f1, f2⟩ := ty_cells b1
      have H0 := Lib.hid b0
      have H1 := Lib.hid b1
      have HB' := Lib.hid HB
      clear b0 b1 HB hb2 HR
      go_wp2_with fail
      refine ret_ty rfl rfl rfl (ty_set (wset_other (wset_other H1.out (by omega)) (by omega))) ⟨?_, set3 ((HB'.out.setCell (Nat.le_refl _) _).setCell (Nat.le_refl _) _) (Nat.le_succ _) _ _ _⟩
      rw [hv.out]
      rfl
set_option maxRecDepth 100000 in
set_option maxHeartbeats 2000000 in
theorem must_any (n : ByteArray) (l m : Int) (w : World) (hn : n.size ≤ 9223372036854775807) : Calls Tryz.prog 19 #[.agg #[.string n, .int .i64 l, .int .i64 m]] w fun e w' => e = .returned (mustV n l m) ∧ Below w.heap.size w w' := by
  have HR := fun w => Lib.hid (wright_any n l m w hn)
  cases hr : rightT n.data.toList l m
  · have hv : Hid (mustV n l m = .agg #[.string n, .int .i64 l, .int .i64 m]) := Lib.hid (by simp [mustV, hr])
    rw [hr] at HR
    clear hr
    go_enter Tryz.func19, Tryz.ntmps19
    go_wp2_with fail
    refine (HR _).out.mono ?_
    rintro e w2 ⟨rfl, hb2⟩
    obtain ⟨b0, b1, HB⟩ := wtwo_new hb2
    obtain ⟨a0, a1, a2, g0, g1, g2⟩ := ty_cells b0
    obtain ⟨c0, c1, c2, f0, f1, f2⟩ := ty_cells b1
    have H0 := Lib.hid b0
    have H1 := Lib.hid b1
    have HB' := Lib.hid HB
    clear b0 b1 HB hb2 HR
    go_wp2_with fail
    refine ret_ty1 rfl rfl rfl (ty_set H1.out) ⟨?_, set3 HB'.out (Nat.le_succ _) _ _ _⟩
    rw [hv.out]
  · have hv : Hid (mustV n l m = .agg #[.string n, .int .i64 l, .int .i64 (bits .or .i64 m 1)]) := Lib.hid (by simp [mustV, hr])
    rw [hr] at HR
    clear hr
    go_enter Tryz.func19, Tryz.ntmps19
    go_wp2_with fail
    refine (HR _).out.mono ?_
    rintro e w2 ⟨rfl, hb2⟩
    obtain ⟨b0, b1, HB⟩ := wtwo_new hb2
    obtain ⟨a0, a1, a2, g0, g1, g2⟩ := ty_cells b0
    obtain ⟨c0, c1, c2, f0, f1, f2⟩ := ty_cells b1
    have H0 := Lib.hid b0
    have H1 := Lib.hid b1
    have HB' := Lib.hid HB
    clear b0 b1 HB hb2 HR
    go_wp2_with fail
    refine ret_ty1 rfl rfl rfl (ty_set (wset_other H1.out (by omega))) ⟨?_, set3 (HB'.out.setCell (Nat.le_refl _) _) (Nat.le_succ _) _ _ _⟩
    rw [hv.out]
set_option maxRecDepth 100000 in
set_option maxHeartbeats 2000000 in
theorem bare_any (n : ByteArray) (l m : Int) (w : World) (hn : n.size ≤ 9223372036854775807) : Calls Tryz.prog 18 #[.agg #[.string n, .int .i64 l, .int .i64 m]] w fun e w' => e = .returned (bareV n l m) ∧ Below w.heap.size w w' := by
  have HR := fun w => Lib.hid (wright_any n l m w hn)
  cases hr : rightT n.data.toList l m
  · have hv : Hid (bareV n l m = .agg #[.string n, .int .i64 l, .int .i64 m]) := Lib.hid (by simp [bareV, hr])
    rw [hr] at HR
    clear hr
    go_enter Tryz.func18, Tryz.ntmps18
    go_wp2_with fail
    refine (HR _).out.mono ?_
    rintro e w2 ⟨rfl, hb2⟩
    obtain ⟨b0, b1, HB⟩ := wtwo_new hb2
    obtain ⟨a0, a1, a2, g0, g1, g2⟩ := ty_cells b0
    obtain ⟨c0, c1, c2, f0, f1, f2⟩ := ty_cells b1
    have H0 := Lib.hid b0
    have H1 := Lib.hid b1
    have HB' := Lib.hid HB
    clear b0 b1 HB hb2 HR
    go_wp2_with fail
    refine ret_ty1 rfl rfl rfl (ty_set H1.out) ⟨?_, set3 HB'.out (Nat.le_succ _) _ _ _⟩
    rw [hv.out]
  · have hv : Hid (bareV n l m = .agg #[.string n, .int .i64 l, .int .i64 (bits .andNot .i64 m 1)]) := Lib.hid (by simp [bareV, hr])
    rw [hr] at HR
    clear hr
    go_enter Tryz.func18, Tryz.ntmps18
    go_wp2_with fail
    refine (HR _).out.mono ?_
    rintro e w2 ⟨rfl, hb2⟩
    obtain ⟨b0, b1, HB⟩ := wtwo_new hb2
    obtain ⟨a0, a1, a2, g0, g1, g2⟩ := ty_cells b0
    obtain ⟨c0, c1, c2, f0, f1, f2⟩ := ty_cells b1
    have H0 := Lib.hid b0
    have H1 := Lib.hid b1
    have HB' := Lib.hid HB
    clear b0 b1 HB hb2 HR
    go_wp2_with fail
    refine ret_ty1 rfl rfl rfl (ty_set (wset_other H1.out (by omega))) ⟨?_, set3 (HB'.out.setCell (Nat.le_refl _) _) (Nat.le_succ _) _ _ _⟩
    rw [hv.out]
end Go.Proofs.YtcfdfgbobnocnaaGreatDoor
