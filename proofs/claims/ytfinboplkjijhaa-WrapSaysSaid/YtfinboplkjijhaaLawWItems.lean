/- The walk of the law WrapItems. -/
import Derived.Test.YtfinboplkjijhaaWAwake
import Derived.Deep.RegionHeld3
namespace Go.Proofs.Ytfinboplkjijhaa
open Go.RowKit

theorem blk {w w' : World} {b : Nat} {o : Obj} (h : w.heap[b]? = some o) (hb : Below w.heap.size w w') : w'.heap[b]? = some o := (hb.block b (lt_of_heap h)).trans h
theorem blkn {w w' : World} {b : Nat} {o o' : Obj} (h : w.heap[b]? = some o) (hb : Below (w.alloc o').heap.size (w.alloc o') w') : w'.heap[b]? = some o := blk (blk h (below_new' w o')) hb
theorem lastn {w w' : World} {o : Obj} (hb : Below (w.alloc o).heap.size (w.alloc o) w') : w'.heap[w.heap.size]? = some o := blk (heap_alloc_last w o) hb
theorem nextn {w w' : World} {o : Obj} (hb : Below (w.alloc o).heap.size (w.alloc o) w') : Below w.heap.size w w' := chain (below_new' w o) hb
theorem size_lt {w w' : World} {o : Obj} (hb : Below (w.alloc o).heap.size (w.alloc o) w') : w.heap.size < w'.heap.size := lt_of_heap (lastn hb)
theorem sto {w w' : World} {b : Nat} {x y z : Value} (hb : Below (((w.setCell ⟨b, 0, none⟩ x).setCell ⟨b, 1, none⟩ y).setCell ⟨b, 2, none⟩ z).heap.size (((w.setCell ⟨b, 0, none⟩ x).setCell ⟨b, 1, none⟩ y).setCell ⟨b, 2, none⟩ z) w') : Below w.heap.size (((w.setCell ⟨b, 0, none⟩ x).setCell ⟨b, 1, none⟩ y).setCell ⟨b, 2, none⟩ z) w' := hb.mono (by simp)
theorem right_zero : rightT (⟨#[]⟩ : ByteArray).data.toList 0 0 = false := rfl
theorem right_up {n : List UInt8} {l m : Int} (h : rightT n l m = true) (hl : l ≤ 3) : rightT n (l + 1) (m * 2) = true := by
  obtain ⟨h0, h1, h2, h3, h4⟩ := right_true h
  have : l = 0 ∨ l = 1 ∨ l = 2 ∨ l = 3 := by omega
  rcases this with rfl | rfl | rfl | rfl <;> (simp at h4; exact right_of h0 (by omega) (by omega) (by omega) (by simp; omega))
theorem right_down {n : List UInt8} {l m : Int} (h : rightT n l m = true) (hl : 1 ≤ l) : rightT n (l - 1) (m / 2) = true := by
  obtain ⟨h0, h1, h2, h3, h4⟩ := right_true h
  have : l = 1 ∨ l = 2 ∨ l = 3 ∨ l = 4 := by omega
  rcases this with rfl | rfl | rfl | rfl <;> (simp at h4; exact right_of h0 (by omega) (by omega) (by omega) (by simp; omega))
theorem not_one_all : ∀ a : Fin 32, bits .andNot .i64 ((a.val : Nat) : Int) 1 = ((a.val / 2 * 2 : Nat) : Int) := by decide +kernel
theorem not_one {m : Int} (h0 : 0 ≤ m) (h1 : m < 32) : bits .andNot .i64 m 1 = m / 2 * 2 := by
  obtain ⟨k, rfl⟩ := Int.eq_ofNat_of_zero_le h0
  have := not_one_all ⟨k, by omega⟩
  simp only at this
  rw [this]; omega
/-- These blocks stand in the world, and all that was there before. -/
def Keep (w w' : World) (L : List (Nat × Obj)) : Prop := (∀ p ∈ L, w'.heap[p.1]? = some p.2) ∧ Below w.heap.size w w'
theorem Keep.next {w w1 w2 : World} {L : List (Nat × Obj)} (hb : Below w1.heap.size w1 w2) (h : Keep w w1 L) : Keep w w2 L :=
  ⟨fun p hp => blk (h.1 p hp) hb, chain h.2 hb⟩
/-- What a type's block shows. -/
def Shows (w : World) (b : Nat) (n : ByteArray) (l m : Int) : Prop := w.cell? ⟨b, 0, none⟩ = some (.string n) ∧ w.cell? ⟨b, 1, none⟩ = some (.int .i64 l) ∧ w.cell? ⟨b, 2, none⟩ = some (.int .i64 m)
theorem shows_of {w : World} {b : Nat} {n : ByteArray} {l m : Int} (h : w.heap[b]? = some (.cells #[.string n, .int .i64 l, .int .i64 m] 23 (0, 0))) : w.cell? ⟨b, 0, none⟩ = some (.string n) ∧ w.cell? ⟨b, 1, none⟩ = some (.int .i64 l) ∧ w.cell? ⟨b, 2, none⟩ = some (.int .i64 m) := ⟨(ty_cells h).1, (ty_cells h).2.1, (ty_cells h).2.2.1⟩
theorem two_cells {w w' : World} {b c : Nat} {n n' : ByteArray} {l m l' m' : Int} (h : Keep w w' [(b, tyO n l m), (c, tyO n' l' m')]) :
    w'.cell? ⟨b, 0, none⟩ = some (.string n) ∧ w'.cell? ⟨b, 1, none⟩ = some (.int .i64 l) ∧ w'.cell? ⟨b, 2, none⟩ = some (.int .i64 m) ∧ w'.cell? ⟨c, 0, none⟩ = some (.string n') ∧ w'.cell? ⟨c, 1, none⟩ = some (.int .i64 l') ∧ w'.cell? ⟨c, 2, none⟩ = some (.int .i64 m') ∧ Keep w w' [(b, tyO n l m), (c, tyO n' l' m')] := by
  obtain ⟨x0, x1, x2⟩ := shows_of (h.1 (b, tyO n l m) (by simp))
  obtain ⟨y0, y1, y2⟩ := shows_of (h.1 (c, tyO n' l' m') (by simp))
  exact ⟨x0, x1, x2, y0, y1, y2, h⟩
theorem two_next {w w1 w2 : World} {b c : Nat} {n n' : ByteArray} {l m l' m' : Int} (hb : Below w1.heap.size w1 w2) (h : w1.cell? ⟨b, 0, none⟩ = some (.string n) ∧ w1.cell? ⟨b, 1, none⟩ = some (.int .i64 l) ∧ w1.cell? ⟨b, 2, none⟩ = some (.int .i64 m) ∧ w1.cell? ⟨c, 0, none⟩ = some (.string n') ∧ w1.cell? ⟨c, 1, none⟩ = some (.int .i64 l') ∧ w1.cell? ⟨c, 2, none⟩ = some (.int .i64 m') ∧ Keep w w1 [(b, tyO n l m), (c, tyO n' l' m')]) :
    w2.cell? ⟨b, 0, none⟩ = some (.string n) ∧ w2.cell? ⟨b, 1, none⟩ = some (.int .i64 l) ∧ w2.cell? ⟨b, 2, none⟩ = some (.int .i64 m) ∧ w2.cell? ⟨c, 0, none⟩ = some (.string n') ∧ w2.cell? ⟨c, 1, none⟩ = some (.int .i64 l') ∧ w2.cell? ⟨c, 2, none⟩ = some (.int .i64 m') ∧ Keep w w2 [(b, tyO n l m), (c, tyO n' l' m')] := two_cells (h.2.2.2.2.2.2.next hb)

theorem items_big (n : ByteArray) (l m : Int) (w : World) (hn : 2000 < n.size) : Calls Try.prog 6 #[.agg #[.string n, .int .i64 l, .int .i64 m]] w fun e w' => e = .returned (.bool true) ∧ Below w.heap.size w w' := by
  have HA := fun w => Lib.hid (awake_any w)
  have hn' : (2000 : Int) < (n.size : Int) := by omega
  go_enter Try.func6, Try.ntmps6
  go_wp2_with fail
  refine (HA _).out.mono ?_
  rintro e w1 ⟨rfl, hb1⟩
  go_wp2_with fail
  go_ret
  exact ⟨rfl, nextn hb1⟩
set_option maxRecDepth 100000 in
set_option maxHeartbeats 4000000 in
theorem items_none (n : ByteArray) (l m : Int) (w : World) (hn : n.size ≤ 2000) (hr : rightT n.data.toList l m = false) : Calls Try.prog 6 #[.agg #[.string n, .int .i64 l, .int .i64 m]] w fun e w' => e = .returned (.bool true) ∧ Below w.heap.size w w' := by
  have HR := fun w => Lib.hid (right_any n l m w (by omega))
  have HL := fun w => Lib.hid (list_any n l m w (by omega))
  have HI := fun w => Lib.hid (item_any n l m w (by omega))
  have HA := fun w => Lib.hid (awake_any w)
  rw [hr] at HR
  have HZ := fun w => Lib.hid (item_any ⟨#[]⟩ 0 0 w (by show 0 ≤ 9000; omega))
  rw [show itemV ⟨#[]⟩ 0 0 = .tuple #[.agg #[.string ⟨#[]⟩, .int .i64 0, .int .i64 0], .bool false] from rfl] at HZ
  rw [show listV n l m = .tuple #[.agg #[.string ⟨#[]⟩, .int .i64 0, .int .i64 0], .bool false] by simp [listV, hr, noT]] at HL
  rw [show itemV n l m = .tuple #[.agg #[.string ⟨#[]⟩, .int .i64 0, .int .i64 0], .bool false] by simp [itemV, hr, noT]] at HI
  clear hr
  have hn' : ¬ (2000 : Int) < (n.size : Int) := by omega
  go_enter Try.func6, Try.ntmps6
  go_wp2_with fail
  refine (HL _).out.mono ?_
  rintro e w1 ⟨rfl, hb1⟩
  have Ka1 := Lib.hid (lastn hb1)
  have zz1 := size_lt hb1
  have KB1 := Lib.hid (nextn hb1)
  obtain ⟨a0, a1, a2, af0, af1, af2⟩ := ty_cells Ka1.out
  have lta1 := lt_of_heap Ka1.out
  have nwa : ¬ w.heap.size = w1.heap.size := by omega
  have nva : ¬ w1.heap.size = w.heap.size := by omega
  clear hb1 HL
  go_wp2_with fail
  refine (HR _).out.mono ?_
  rintro e w2 ⟨rfl, hb2⟩
  have Ka2 := Lib.hid (blkn Ka1.out hb2)
  have Kb2 := Lib.hid (lastn hb2)
  have zz2 := size_lt hb2
  have KB2 := Lib.hid (chain KB1.out (nextn hb2))
  obtain ⟨a0, a1, a2, af0, af1, af2⟩ := ty_cells Ka2.out
  obtain ⟨b0, b1, b2, bf0, bf1, bf2⟩ := ty_cells Kb2.out
  have lta2 := lt_of_heap Ka2.out
  have ltb2 := lt_of_heap Kb2.out
  have nwa : ¬ w.heap.size = w2.heap.size := by omega
  have nva : ¬ w2.heap.size = w.heap.size := by omega
  have neab : ¬ w.heap.size = w1.heap.size := by omega
  have neba : ¬ w1.heap.size = w.heap.size := by omega
  have nwb : ¬ w1.heap.size = w2.heap.size := by omega
  have nvb : ¬ w2.heap.size = w1.heap.size := by omega
  clear hb2
  go_wp2_with fail
  refine (HZ _).out.mono ?_
  rintro e w3 ⟨rfl, hb3⟩
  have Ka3 := Lib.hid (blk Ka2.out hb3)
  have Kb3 := Lib.hid (blk Kb2.out hb3)
  have zz3 := hb3.size
  have KB3 := Lib.hid (chain KB2.out hb3)
  obtain ⟨a0, a1, a2, af0, af1, af2⟩ := ty_cells Ka3.out
  obtain ⟨b0, b1, b2, bf0, bf1, bf2⟩ := ty_cells Kb3.out
  have lta3 := lt_of_heap Ka3.out
  have ltb3 := lt_of_heap Kb3.out
  have nwa : ¬ w.heap.size = w3.heap.size := by omega
  have nva : ¬ w3.heap.size = w.heap.size := by omega
  have nwb : ¬ w1.heap.size = w3.heap.size := by omega
  have nvb : ¬ w3.heap.size = w1.heap.size := by omega
  clear hb3 HZ
  go_wp2_with fail
  refine (HI _).out.mono ?_
  rintro e w4 ⟨rfl, hb4⟩
  have Ka4 := Lib.hid (blkn Ka3.out hb4)
  have Kb4 := Lib.hid (blkn Kb3.out hb4)
  have Kc4 := Lib.hid (lastn hb4)
  have zz4 := size_lt hb4
  have KB4 := Lib.hid (chain KB3.out (nextn hb4))
  obtain ⟨a0, a1, a2, af0, af1, af2⟩ := ty_cells Ka4.out
  obtain ⟨b0, b1, b2, bf0, bf1, bf2⟩ := ty_cells Kb4.out
  obtain ⟨c0, c1, c2, cf0, cf1, cf2⟩ := ty_cells Kc4.out
  have lta4 := lt_of_heap Ka4.out
  have ltb4 := lt_of_heap Kb4.out
  have ltc4 := lt_of_heap Kc4.out
  have nwa : ¬ w.heap.size = w4.heap.size := by omega
  have nva : ¬ w4.heap.size = w.heap.size := by omega
  have neac : ¬ w.heap.size = w3.heap.size := by omega
  have neca : ¬ w3.heap.size = w.heap.size := by omega
  have nwb : ¬ w1.heap.size = w4.heap.size := by omega
  have nvb : ¬ w4.heap.size = w1.heap.size := by omega
  have nebc : ¬ w1.heap.size = w3.heap.size := by omega
  have necb : ¬ w3.heap.size = w1.heap.size := by omega
  have nwc : ¬ w3.heap.size = w4.heap.size := by omega
  have nvc : ¬ w4.heap.size = w3.heap.size := by omega
  clear hb4 HI
  go_wp2_with fail
  refine (HR _).out.mono ?_
  rintro e w5 ⟨rfl, hb5⟩
  have zz5 : w4.heap.size ≤ w5.heap.size := by have := hb5.size; simpa using this
  have hc5 := sto hb5
  have Ka5 := Lib.hid ((hc5.block (w.heap.size) lta4).trans (set_other (set_other (set_other Ka4.out neca) neca) neca))
  have Kb5 := Lib.hid ((hc5.block (w1.heap.size) ltb4).trans (set_other (set_other (set_other Kb4.out necb) necb) necb))
  have Kc5 := Lib.hid ((hc5.block (w3.heap.size) ltc4).trans (ty_set Kc4.out))
  have KB5 := Lib.hid ((set3 KB4.out (by omega : w.heap.size ≤ w3.heap.size) _ _ _).trans (hc5.mono (by omega : w.heap.size ≤ w4.heap.size)))
  obtain ⟨a0, a1, a2, af0, af1, af2⟩ := ty_cells Ka5.out
  obtain ⟨b0, b1, b2, bf0, bf1, bf2⟩ := ty_cells Kb5.out
  obtain ⟨c0, c1, c2, cf0, cf1, cf2⟩ := ty_cells Kc5.out
  have lta5 := lt_of_heap Ka5.out
  have ltb5 := lt_of_heap Kb5.out
  have ltc5 := lt_of_heap Kc5.out
  have nwa : ¬ w.heap.size = w5.heap.size := by omega
  have nva : ¬ w5.heap.size = w.heap.size := by omega
  have nwb : ¬ w1.heap.size = w5.heap.size := by omega
  have nvb : ¬ w5.heap.size = w1.heap.size := by omega
  have nwc : ¬ w3.heap.size = w5.heap.size := by omega
  have nvc : ¬ w5.heap.size = w3.heap.size := by omega
  clear hb5 hc5
  go_wp2_with fail
  refine (HA _).out.mono ?_
  rintro e w6 ⟨rfl, hb6⟩
  have Ka6 := Lib.hid (blk Ka5.out hb6)
  have Kb6 := Lib.hid (blk Kb5.out hb6)
  have Kc6 := Lib.hid (blk Kc5.out hb6)
  have zz6 := hb6.size
  have KB6 := Lib.hid (chain KB5.out hb6)
  obtain ⟨a0, a1, a2, af0, af1, af2⟩ := ty_cells Ka6.out
  obtain ⟨b0, b1, b2, bf0, bf1, bf2⟩ := ty_cells Kb6.out
  obtain ⟨c0, c1, c2, cf0, cf1, cf2⟩ := ty_cells Kc6.out
  have lta6 := lt_of_heap Ka6.out
  have ltb6 := lt_of_heap Kb6.out
  have ltc6 := lt_of_heap Kc6.out
  have nwa : ¬ w.heap.size = w6.heap.size := by omega
  have nva : ¬ w6.heap.size = w.heap.size := by omega
  have nwb : ¬ w1.heap.size = w6.heap.size := by omega
  have nvb : ¬ w6.heap.size = w1.heap.size := by omega
  have nwc : ¬ w3.heap.size = w6.heap.size := by omega
  have nvc : ¬ w6.heap.size = w3.heap.size := by omega
  clear hb6
  go_wp2_with fail
  go_ret
  exact ⟨rfl, KB6.out⟩
set_option maxRecDepth 100000 in
set_option maxHeartbeats 4000000 in
theorem items_zero (n : ByteArray) (l m : Int) (w : World) (hn : n.size ≤ 2000) (hr : rightT n.data.toList l m = true) (h0 : l = 0) : Calls Try.prog 6 #[.agg #[.string n, .int .i64 l, .int .i64 m]] w fun e w' => e = .returned (.bool true) ∧ Below w.heap.size w w' := by
  have HR := fun w => Lib.hid (right_any n l m w (by omega))
  have HL := fun w => Lib.hid (list_any n l m w (by omega))
  have HI := fun w => Lib.hid (item_any n l m w (by omega))
  have HA := fun w => Lib.hid (awake_any w)
  rw [hr] at HR
  obtain ⟨s1, s2, s3, s4⟩ := right_small hr
  have hup := right_up hr (by omega)
  have HI1 := fun w => Lib.hid (item_any n (l + 1) (m * 2) w (by omega))
  have HIs := fun w => Lib.hid (is_any n (l + 1) (m * 2) w (by omega))
  rw [show itemV n (l + 1) (m * 2) = .tuple #[.agg #[.string n, .int .i64 l, .int .i64 m], .bool true] by rw [itemV, if_pos ⟨hup, by omega⟩, yesT, (by omega : l + 1 - 1 = l), (by omega : m * 2 / 2 = m)]] at HI1
  rw [show isB n.data.toList (l + 1) (m * 2) = false by rw [isB, hup]; simp] at HIs
  rw [show listV n l m = .tuple #[.agg #[.string n, .int .i64 (l + 1), .int .i64 (m * 2)], .bool true] by rw [listV, if_pos ⟨hr, by omega⟩, yesT]] at HL
  obtain ⟨m2, hm2⟩ : ∃ m2, m * 2 = m2 := ⟨_, rfl⟩
  rw [hm2] at HI1 HIs HL
  rw [show itemV n l m = .tuple #[.agg #[.string ⟨#[]⟩, .int .i64 0, .int .i64 0], .bool false] by simp [itemV, h0, noT]] at HI
  subst h0
  clear hr hup hm2
  have hn' : ¬ (2000 : Int) < (n.size : Int) := by omega
  go_enter Try.func6, Try.ntmps6
  go_wp2_with fail
  refine (HL _).out.mono ?_
  rintro e w1 ⟨rfl, hb1⟩
  have Ka1 := Lib.hid (lastn hb1)
  have zz1 := size_lt hb1
  have KB1 := Lib.hid (nextn hb1)
  obtain ⟨a0, a1, a2, af0, af1, af2⟩ := ty_cells Ka1.out
  have lta1 := lt_of_heap Ka1.out
  have nwa : ¬ w.heap.size = w1.heap.size := by omega
  have nva : ¬ w1.heap.size = w.heap.size := by omega
  clear hb1 HL
  go_wp2_with fail
  refine (HR _).out.mono ?_
  rintro e w2 ⟨rfl, hb2⟩
  have Ka2 := Lib.hid (blkn Ka1.out hb2)
  have Kb2 := Lib.hid (lastn hb2)
  have zz2 := size_lt hb2
  have KB2 := Lib.hid (chain KB1.out (nextn hb2))
  obtain ⟨a0, a1, a2, af0, af1, af2⟩ := ty_cells Ka2.out
  obtain ⟨b0, b1, b2, bf0, bf1, bf2⟩ := ty_cells Kb2.out
  have lta2 := lt_of_heap Ka2.out
  have ltb2 := lt_of_heap Kb2.out
  have nwa : ¬ w.heap.size = w2.heap.size := by omega
  have nva : ¬ w2.heap.size = w.heap.size := by omega
  have neab : ¬ w.heap.size = w1.heap.size := by omega
  have neba : ¬ w1.heap.size = w.heap.size := by omega
  have nwb : ¬ w1.heap.size = w2.heap.size := by omega
  have nvb : ¬ w2.heap.size = w1.heap.size := by omega
  clear hb2
  go_wp2_with fail
  refine (HI1 _).out.mono ?_
  rintro e w3 ⟨rfl, hb3⟩
  have Ka3 := Lib.hid (blk Ka2.out hb3)
  have Kb3 := Lib.hid (blk Kb2.out hb3)
  have zz3 := hb3.size
  have KB3 := Lib.hid (chain KB2.out hb3)
  obtain ⟨a0, a1, a2, af0, af1, af2⟩ := ty_cells Ka3.out
  obtain ⟨b0, b1, b2, bf0, bf1, bf2⟩ := ty_cells Kb3.out
  have lta3 := lt_of_heap Ka3.out
  have ltb3 := lt_of_heap Kb3.out
  have nwa : ¬ w.heap.size = w3.heap.size := by omega
  have nva : ¬ w3.heap.size = w.heap.size := by omega
  have nwb : ¬ w1.heap.size = w3.heap.size := by omega
  have nvb : ¬ w3.heap.size = w1.heap.size := by omega
  clear hb3 HI1
  go_wp2_with fail
  refine (HIs _).out.mono ?_
  rintro e w4 ⟨rfl, hb4⟩
  have Ka4 := Lib.hid (blkn Ka3.out hb4)
  have Kb4 := Lib.hid (blkn Kb3.out hb4)
  have Kc4 := Lib.hid (lastn hb4)
  have zz4 := size_lt hb4
  have KB4 := Lib.hid (chain KB3.out (nextn hb4))
  obtain ⟨a0, a1, a2, af0, af1, af2⟩ := ty_cells Ka4.out
  obtain ⟨b0, b1, b2, bf0, bf1, bf2⟩ := ty_cells Kb4.out
  obtain ⟨c0, c1, c2, cf0, cf1, cf2⟩ := ty_cells Kc4.out
  have lta4 := lt_of_heap Ka4.out
  have ltb4 := lt_of_heap Kb4.out
  have ltc4 := lt_of_heap Kc4.out
  have nwa : ¬ w.heap.size = w4.heap.size := by omega
  have nva : ¬ w4.heap.size = w.heap.size := by omega
  have neac : ¬ w.heap.size = w3.heap.size := by omega
  have neca : ¬ w3.heap.size = w.heap.size := by omega
  have nwb : ¬ w1.heap.size = w4.heap.size := by omega
  have nvb : ¬ w4.heap.size = w1.heap.size := by omega
  have nebc : ¬ w1.heap.size = w3.heap.size := by omega
  have necb : ¬ w3.heap.size = w1.heap.size := by omega
  have nwc : ¬ w3.heap.size = w4.heap.size := by omega
  have nvc : ¬ w4.heap.size = w3.heap.size := by omega
  clear hb4 HIs
  go_wp2_with fail
  refine (HI _).out.mono ?_
  rintro e w5 ⟨rfl, hb5⟩
  have Ka5 := Lib.hid (blk Ka4.out hb5)
  have Kb5 := Lib.hid (blk Kb4.out hb5)
  have Kc5 := Lib.hid (blk Kc4.out hb5)
  have zz5 := hb5.size
  have KB5 := Lib.hid (chain KB4.out hb5)
  obtain ⟨a0, a1, a2, af0, af1, af2⟩ := ty_cells Ka5.out
  obtain ⟨b0, b1, b2, bf0, bf1, bf2⟩ := ty_cells Kb5.out
  obtain ⟨c0, c1, c2, cf0, cf1, cf2⟩ := ty_cells Kc5.out
  have lta5 := lt_of_heap Ka5.out
  have ltb5 := lt_of_heap Kb5.out
  have ltc5 := lt_of_heap Kc5.out
  have nwa : ¬ w.heap.size = w5.heap.size := by omega
  have nva : ¬ w5.heap.size = w.heap.size := by omega
  have nwb : ¬ w1.heap.size = w5.heap.size := by omega
  have nvb : ¬ w5.heap.size = w1.heap.size := by omega
  have nwc : ¬ w3.heap.size = w5.heap.size := by omega
  have nvc : ¬ w5.heap.size = w3.heap.size := by omega
  clear hb5 HI
  go_wp2_with fail
  refine (HR _).out.mono ?_
  rintro e w6 ⟨rfl, hb6⟩
  have zz6 : w5.heap.size ≤ w6.heap.size := by have := hb6.size; simpa using this
  have hc6 := sto hb6
  have Ka6 := Lib.hid ((hc6.block (w.heap.size) lta5).trans (set_other (set_other (set_other Ka5.out neca) neca) neca))
  have Kb6 := Lib.hid ((hc6.block (w1.heap.size) ltb5).trans (set_other (set_other (set_other Kb5.out necb) necb) necb))
  have Kc6 := Lib.hid ((hc6.block (w3.heap.size) ltc5).trans (ty_set Kc5.out))
  have KB6 := Lib.hid ((set3 KB5.out (by omega : w.heap.size ≤ w3.heap.size) _ _ _).trans (hc6.mono (by omega : w.heap.size ≤ w5.heap.size)))
  obtain ⟨a0, a1, a2, af0, af1, af2⟩ := ty_cells Ka6.out
  obtain ⟨b0, b1, b2, bf0, bf1, bf2⟩ := ty_cells Kb6.out
  obtain ⟨c0, c1, c2, cf0, cf1, cf2⟩ := ty_cells Kc6.out
  have lta6 := lt_of_heap Ka6.out
  have ltb6 := lt_of_heap Kb6.out
  have ltc6 := lt_of_heap Kc6.out
  have nwa : ¬ w.heap.size = w6.heap.size := by omega
  have nva : ¬ w6.heap.size = w.heap.size := by omega
  have nwb : ¬ w1.heap.size = w6.heap.size := by omega
  have nvb : ¬ w6.heap.size = w1.heap.size := by omega
  have nwc : ¬ w3.heap.size = w6.heap.size := by omega
  have nvc : ¬ w6.heap.size = w3.heap.size := by omega
  clear hb6 hc6
  go_wp2_with fail
  refine (HA _).out.mono ?_
  rintro e w7 ⟨rfl, hb7⟩
  have Ka7 := Lib.hid (blk Ka6.out hb7)
  have Kb7 := Lib.hid (blk Kb6.out hb7)
  have Kc7 := Lib.hid (blk Kc6.out hb7)
  have zz7 := hb7.size
  have KB7 := Lib.hid (chain KB6.out hb7)
  obtain ⟨a0, a1, a2, af0, af1, af2⟩ := ty_cells Ka7.out
  obtain ⟨b0, b1, b2, bf0, bf1, bf2⟩ := ty_cells Kb7.out
  obtain ⟨c0, c1, c2, cf0, cf1, cf2⟩ := ty_cells Kc7.out
  have lta7 := lt_of_heap Ka7.out
  have ltb7 := lt_of_heap Kb7.out
  have ltc7 := lt_of_heap Kc7.out
  have nwa : ¬ w.heap.size = w7.heap.size := by omega
  have nva : ¬ w7.heap.size = w.heap.size := by omega
  have nwb : ¬ w1.heap.size = w7.heap.size := by omega
  have nvb : ¬ w7.heap.size = w1.heap.size := by omega
  have nwc : ¬ w3.heap.size = w7.heap.size := by omega
  have nvc : ¬ w7.heap.size = w3.heap.size := by omega
  clear hb7
  go_wp2_with fail
  go_ret
  exact ⟨rfl, KB7.out⟩
set_option maxRecDepth 100000 in
set_option maxHeartbeats 4000000 in
theorem items_four (n : ByteArray) (l m : Int) (w : World) (hn : n.size ≤ 2000) (hr : rightT n.data.toList l m = true) (h4 : l = 4) : Calls Try.prog 6 #[.agg #[.string n, .int .i64 l, .int .i64 m]] w fun e w' => e = .returned (.bool true) ∧ Below w.heap.size w w' := by
  have HR := fun w => Lib.hid (right_any n l m w (by omega))
  have HL := fun w => Lib.hid (list_any n l m w (by omega))
  have HI := fun w => Lib.hid (item_any n l m w (by omega))
  have HA := fun w => Lib.hid (awake_any w)
  rw [hr] at HR
  have HZ := fun w => Lib.hid (item_any ⟨#[]⟩ 0 0 w (by show 0 ≤ 9000; omega))
  rw [show itemV ⟨#[]⟩ 0 0 = .tuple #[.agg #[.string ⟨#[]⟩, .int .i64 0, .int .i64 0], .bool false] from rfl] at HZ
  obtain ⟨s1, s2, s3, s4⟩ := right_small hr
  rw [show listV n l m = .tuple #[.agg #[.string ⟨#[]⟩, .int .i64 0, .int .i64 0], .bool false] by simp [listV, h4, noT]] at HL
  have hdn := right_down hr (by omega)
  have HL2 := fun w => Lib.hid (list_any n (l - 1) (m / 2) w (by omega))
  have HBr := fun w => Lib.hid (bare_any n l m w (by omega))
  rw [show listV n (l - 1) (m / 2) = .tuple #[.agg #[.string n, .int .i64 l, .int .i64 (m / 2 * 2)], .bool true] by rw [listV, if_pos ⟨hdn, by omega⟩, yesT, (by omega : l - 1 + 1 = l)]] at HL2
  rw [show bareV n l m = .agg #[.string n, .int .i64 l, .int .i64 (m / 2 * 2)] by rw [bareV, if_pos hr, not_one s3 s4]] at HBr
  rw [show itemV n l m = .tuple #[.agg #[.string n, .int .i64 (l - 1), .int .i64 (m / 2)], .bool true] by rw [itemV, if_pos ⟨hr, by omega⟩, yesT]] at HI
  obtain ⟨h2, hh2⟩ : ∃ h2, m / 2 * 2 = h2 := ⟨_, rfl⟩
  rw [hh2] at HL2 HBr
  obtain ⟨h1, hh1⟩ : ∃ h1, m / 2 = h1 := ⟨_, rfl⟩
  rw [hh1] at HL2 HI
  obtain ⟨l1, hl1⟩ : ∃ l1, l - 1 = l1 := ⟨_, rfl⟩
  rw [hl1] at HL2 HI
  obtain rfl : l1 = 3 := by omega
  subst h4
  clear hr hdn hh1 hh2 hl1
  have hn' : ¬ (2000 : Int) < (n.size : Int) := by omega
  go_enter Try.func6, Try.ntmps6
  go_wp2_with fail
  refine (HL _).out.mono ?_
  rintro e w1 ⟨rfl, hb1⟩
  have Ka1 := Lib.hid (lastn hb1)
  have zz1 := size_lt hb1
  have KB1 := Lib.hid (nextn hb1)
  obtain ⟨a0, a1, a2, af0, af1, af2⟩ := ty_cells Ka1.out
  have lta1 := lt_of_heap Ka1.out
  have nwa : ¬ w.heap.size = w1.heap.size := by omega
  have nva : ¬ w1.heap.size = w.heap.size := by omega
  clear hb1 HL
  go_wp2_with fail
  refine (HR _).out.mono ?_
  rintro e w2 ⟨rfl, hb2⟩
  have Ka2 := Lib.hid (blkn Ka1.out hb2)
  have Kb2 := Lib.hid (lastn hb2)
  have zz2 := size_lt hb2
  have KB2 := Lib.hid (chain KB1.out (nextn hb2))
  obtain ⟨a0, a1, a2, af0, af1, af2⟩ := ty_cells Ka2.out
  obtain ⟨b0, b1, b2, bf0, bf1, bf2⟩ := ty_cells Kb2.out
  have lta2 := lt_of_heap Ka2.out
  have ltb2 := lt_of_heap Kb2.out
  have nwa : ¬ w.heap.size = w2.heap.size := by omega
  have nva : ¬ w2.heap.size = w.heap.size := by omega
  have neab : ¬ w.heap.size = w1.heap.size := by omega
  have neba : ¬ w1.heap.size = w.heap.size := by omega
  have nwb : ¬ w1.heap.size = w2.heap.size := by omega
  have nvb : ¬ w2.heap.size = w1.heap.size := by omega
  clear hb2
  go_wp2_with fail
  refine (HZ _).out.mono ?_
  rintro e w3 ⟨rfl, hb3⟩
  have Ka3 := Lib.hid (blk Ka2.out hb3)
  have Kb3 := Lib.hid (blk Kb2.out hb3)
  have zz3 := hb3.size
  have KB3 := Lib.hid (chain KB2.out hb3)
  obtain ⟨a0, a1, a2, af0, af1, af2⟩ := ty_cells Ka3.out
  obtain ⟨b0, b1, b2, bf0, bf1, bf2⟩ := ty_cells Kb3.out
  have lta3 := lt_of_heap Ka3.out
  have ltb3 := lt_of_heap Kb3.out
  have nwa : ¬ w.heap.size = w3.heap.size := by omega
  have nva : ¬ w3.heap.size = w.heap.size := by omega
  have nwb : ¬ w1.heap.size = w3.heap.size := by omega
  have nvb : ¬ w3.heap.size = w1.heap.size := by omega
  clear hb3 HZ
  go_wp2_with fail
  refine (HI _).out.mono ?_
  rintro e w4 ⟨rfl, hb4⟩
  have Ka4 := Lib.hid (blkn Ka3.out hb4)
  have Kb4 := Lib.hid (blkn Kb3.out hb4)
  have Kc4 := Lib.hid (lastn hb4)
  have zz4 := size_lt hb4
  have KB4 := Lib.hid (chain KB3.out (nextn hb4))
  obtain ⟨a0, a1, a2, af0, af1, af2⟩ := ty_cells Ka4.out
  obtain ⟨b0, b1, b2, bf0, bf1, bf2⟩ := ty_cells Kb4.out
  obtain ⟨c0, c1, c2, cf0, cf1, cf2⟩ := ty_cells Kc4.out
  have lta4 := lt_of_heap Ka4.out
  have ltb4 := lt_of_heap Kb4.out
  have ltc4 := lt_of_heap Kc4.out
  have nwa : ¬ w.heap.size = w4.heap.size := by omega
  have nva : ¬ w4.heap.size = w.heap.size := by omega
  have neac : ¬ w.heap.size = w3.heap.size := by omega
  have neca : ¬ w3.heap.size = w.heap.size := by omega
  have nwb : ¬ w1.heap.size = w4.heap.size := by omega
  have nvb : ¬ w4.heap.size = w1.heap.size := by omega
  have nebc : ¬ w1.heap.size = w3.heap.size := by omega
  have necb : ¬ w3.heap.size = w1.heap.size := by omega
  have nwc : ¬ w3.heap.size = w4.heap.size := by omega
  have nvc : ¬ w4.heap.size = w3.heap.size := by omega
  clear hb4 HI
  go_wp2_with fail
  refine (HR _).out.mono ?_
  rintro e w5 ⟨rfl, hb5⟩
  have zz5 : w4.heap.size ≤ w5.heap.size := by have := hb5.size; simpa using this
  have hc5 := sto hb5
  have Ka5 := Lib.hid ((hc5.block (w.heap.size) lta4).trans (set_other (set_other (set_other Ka4.out neca) neca) neca))
  have Kb5 := Lib.hid ((hc5.block (w1.heap.size) ltb4).trans (set_other (set_other (set_other Kb4.out necb) necb) necb))
  have Kc5 := Lib.hid ((hc5.block (w3.heap.size) ltc4).trans (ty_set Kc4.out))
  have KB5 := Lib.hid ((set3 KB4.out (by omega : w.heap.size ≤ w3.heap.size) _ _ _).trans (hc5.mono (by omega : w.heap.size ≤ w4.heap.size)))
  obtain ⟨a0, a1, a2, af0, af1, af2⟩ := ty_cells Ka5.out
  obtain ⟨b0, b1, b2, bf0, bf1, bf2⟩ := ty_cells Kb5.out
  obtain ⟨c0, c1, c2, cf0, cf1, cf2⟩ := ty_cells Kc5.out
  have lta5 := lt_of_heap Ka5.out
  have ltb5 := lt_of_heap Kb5.out
  have ltc5 := lt_of_heap Kc5.out
  have nwa : ¬ w.heap.size = w5.heap.size := by omega
  have nva : ¬ w5.heap.size = w.heap.size := by omega
  have nwb : ¬ w1.heap.size = w5.heap.size := by omega
  have nvb : ¬ w5.heap.size = w1.heap.size := by omega
  have nwc : ¬ w3.heap.size = w5.heap.size := by omega
  have nvc : ¬ w5.heap.size = w3.heap.size := by omega
  clear hb5 hc5
  go_wp2_with fail
  refine (HL2 _).out.mono ?_
  rintro e w6 ⟨rfl, hb6⟩
  have Ka6 := Lib.hid (blk Ka5.out hb6)
  have Kb6 := Lib.hid (blk Kb5.out hb6)
  have Kc6 := Lib.hid (blk Kc5.out hb6)
  have zz6 := hb6.size
  have KB6 := Lib.hid (chain KB5.out hb6)
  obtain ⟨a0, a1, a2, af0, af1, af2⟩ := ty_cells Ka6.out
  obtain ⟨b0, b1, b2, bf0, bf1, bf2⟩ := ty_cells Kb6.out
  obtain ⟨c0, c1, c2, cf0, cf1, cf2⟩ := ty_cells Kc6.out
  have lta6 := lt_of_heap Ka6.out
  have ltb6 := lt_of_heap Kb6.out
  have ltc6 := lt_of_heap Kc6.out
  have nwa : ¬ w.heap.size = w6.heap.size := by omega
  have nva : ¬ w6.heap.size = w.heap.size := by omega
  have nwb : ¬ w1.heap.size = w6.heap.size := by omega
  have nvb : ¬ w6.heap.size = w1.heap.size := by omega
  have nwc : ¬ w3.heap.size = w6.heap.size := by omega
  have nvc : ¬ w6.heap.size = w3.heap.size := by omega
  clear hb6 HL2
  go_wp2_with fail
  have HS := two_cells (⟨by
    intro p hp
    simp only [List.mem_cons, List.not_mem_nil, or_false] at hp
    rcases hp with rfl | rfl
    · exact blk Ka6.out (below_new' _ _)
    · exact heap_alloc_last _ _, chain KB6.out (below_new' w6 _)⟩ : Keep w (w6.alloc (tyO n 4 h2)) [(w.heap.size, tyO n 4 m), (w6.heap.size, tyO n 4 h2)])
  go_region_held3 (fun w' => w'.cell? ⟨w.heap.size, 0, none⟩ = some (.string n) ∧ w'.cell? ⟨w.heap.size, 1, none⟩ = some (.int .i64 4) ∧ w'.cell? ⟨w.heap.size, 2, none⟩ = some (.int .i64 m) ∧ w'.cell? ⟨w6.heap.size, 0, none⟩ = some (.string n) ∧ w'.cell? ⟨w6.heap.size, 1, none⟩ = some (.int .i64 4) ∧ w'.cell? ⟨w6.heap.size, 2, none⟩ = some (.int .i64 h2) ∧ Keep w w' [(w.heap.size, tyO n 4 m), (w6.heap.size, tyO n 4 h2)])
    (first
      | exact two_next (Below.drew (Below.refl _ _)) HS
      | exact two_next (by assumption) (by assumption)
      | exact two_next (by assumption) ⟨by assumption, by assumption, by assumption, by assumption, by assumption, by assumption, by assumption⟩
      | go_keep)
    ((first
      | (go_at_call 21; refine (HBr _).out.mono ?_; rintro e w' ⟨rfl, hb⟩)
      | (go_at_call 8; refine (HA _).out.mono ?_; rintro e w' ⟨rfl, hb⟩)))
  all_goals (go_wp2_with fail; go_ret; exact ⟨rfl, (by assumption : _ ∧ _ ∧ _ ∧ _ ∧ _ ∧ _ ∧ Keep w _ _).2.2.2.2.2.2.2⟩)
set_option maxRecDepth 100000 in
set_option maxHeartbeats 4000000 in
theorem items_some (n : ByteArray) (l m : Int) (w : World) (hn : n.size ≤ 2000) (hr : rightT n.data.toList l m = true) (h1 : 1 ≤ l) (h3 : l ≤ 3) : Calls Try.prog 6 #[.agg #[.string n, .int .i64 l, .int .i64 m]] w fun e w' => e = .returned (.bool true) ∧ Below w.heap.size w w' := by
  have HR := fun w => Lib.hid (right_any n l m w (by omega))
  have HL := fun w => Lib.hid (list_any n l m w (by omega))
  have HI := fun w => Lib.hid (item_any n l m w (by omega))
  have HA := fun w => Lib.hid (awake_any w)
  rw [hr] at HR
  obtain ⟨s1, s2, s3, s4⟩ := right_small hr
  have hup := right_up hr (by omega)
  have HI1 := fun w => Lib.hid (item_any n (l + 1) (m * 2) w (by omega))
  have HIs := fun w => Lib.hid (is_any n (l + 1) (m * 2) w (by omega))
  rw [show itemV n (l + 1) (m * 2) = .tuple #[.agg #[.string n, .int .i64 l, .int .i64 m], .bool true] by rw [itemV, if_pos ⟨hup, by omega⟩, yesT, (by omega : l + 1 - 1 = l), (by omega : m * 2 / 2 = m)]] at HI1
  rw [show isB n.data.toList (l + 1) (m * 2) = false by rw [isB, hup]; simp] at HIs
  rw [show listV n l m = .tuple #[.agg #[.string n, .int .i64 (l + 1), .int .i64 (m * 2)], .bool true] by rw [listV, if_pos ⟨hr, by omega⟩, yesT]] at HL
  obtain ⟨m2, hm2⟩ : ∃ m2, m * 2 = m2 := ⟨_, rfl⟩
  rw [hm2] at HI1 HIs HL
  have hdn := right_down hr (by omega)
  have HL2 := fun w => Lib.hid (list_any n (l - 1) (m / 2) w (by omega))
  have HBr := fun w => Lib.hid (bare_any n l m w (by omega))
  rw [show listV n (l - 1) (m / 2) = .tuple #[.agg #[.string n, .int .i64 l, .int .i64 (m / 2 * 2)], .bool true] by rw [listV, if_pos ⟨hdn, by omega⟩, yesT, (by omega : l - 1 + 1 = l)]] at HL2
  rw [show bareV n l m = .agg #[.string n, .int .i64 l, .int .i64 (m / 2 * 2)] by rw [bareV, if_pos hr, not_one s3 s4]] at HBr
  rw [show itemV n l m = .tuple #[.agg #[.string n, .int .i64 (l - 1), .int .i64 (m / 2)], .bool true] by rw [itemV, if_pos ⟨hr, by omega⟩, yesT]] at HI
  obtain ⟨h2, hh2⟩ : ∃ h2, m / 2 * 2 = h2 := ⟨_, rfl⟩
  rw [hh2] at HL2 HBr
  obtain ⟨h1, hh1⟩ : ∃ h1, m / 2 = h1 := ⟨_, rfl⟩
  rw [hh1] at HL2 HI
  obtain ⟨l1, hl1⟩ : ∃ l1, l - 1 = l1 := ⟨_, rfl⟩
  rw [hl1] at HL2 HI
  have p1 : decide (l < (4 : Int)) = true := by simp; omega
  have p2 : decide ((0 : Int) < l) = true := by simp; omega
  clear hr hup hdn hm2 hh1 hh2 hl1
  have hn' : ¬ (2000 : Int) < (n.size : Int) := by omega
  go_enter Try.func6, Try.ntmps6
  go_wp2_with fail
  refine (HL _).out.mono ?_
  rintro e w1 ⟨rfl, hb1⟩
  have Ka1 := Lib.hid (lastn hb1)
  have zz1 := size_lt hb1
  have KB1 := Lib.hid (nextn hb1)
  obtain ⟨a0, a1, a2, af0, af1, af2⟩ := ty_cells Ka1.out
  have lta1 := lt_of_heap Ka1.out
  have nwa : ¬ w.heap.size = w1.heap.size := by omega
  have nva : ¬ w1.heap.size = w.heap.size := by omega
  clear hb1 HL
  go_wp2_with fail
  refine (HR _).out.mono ?_
  rintro e w2 ⟨rfl, hb2⟩
  have Ka2 := Lib.hid (blkn Ka1.out hb2)
  have Kb2 := Lib.hid (lastn hb2)
  have zz2 := size_lt hb2
  have KB2 := Lib.hid (chain KB1.out (nextn hb2))
  obtain ⟨a0, a1, a2, af0, af1, af2⟩ := ty_cells Ka2.out
  obtain ⟨b0, b1, b2, bf0, bf1, bf2⟩ := ty_cells Kb2.out
  have lta2 := lt_of_heap Ka2.out
  have ltb2 := lt_of_heap Kb2.out
  have nwa : ¬ w.heap.size = w2.heap.size := by omega
  have nva : ¬ w2.heap.size = w.heap.size := by omega
  have neab : ¬ w.heap.size = w1.heap.size := by omega
  have neba : ¬ w1.heap.size = w.heap.size := by omega
  have nwb : ¬ w1.heap.size = w2.heap.size := by omega
  have nvb : ¬ w2.heap.size = w1.heap.size := by omega
  clear hb2
  go_wp2_with fail
  refine (HI1 _).out.mono ?_
  rintro e w3 ⟨rfl, hb3⟩
  have Ka3 := Lib.hid (blk Ka2.out hb3)
  have Kb3 := Lib.hid (blk Kb2.out hb3)
  have zz3 := hb3.size
  have KB3 := Lib.hid (chain KB2.out hb3)
  obtain ⟨a0, a1, a2, af0, af1, af2⟩ := ty_cells Ka3.out
  obtain ⟨b0, b1, b2, bf0, bf1, bf2⟩ := ty_cells Kb3.out
  have lta3 := lt_of_heap Ka3.out
  have ltb3 := lt_of_heap Kb3.out
  have nwa : ¬ w.heap.size = w3.heap.size := by omega
  have nva : ¬ w3.heap.size = w.heap.size := by omega
  have nwb : ¬ w1.heap.size = w3.heap.size := by omega
  have nvb : ¬ w3.heap.size = w1.heap.size := by omega
  clear hb3 HI1
  go_wp2_with fail
  refine (HIs _).out.mono ?_
  rintro e w4 ⟨rfl, hb4⟩
  have Ka4 := Lib.hid (blkn Ka3.out hb4)
  have Kb4 := Lib.hid (blkn Kb3.out hb4)
  have Kc4 := Lib.hid (lastn hb4)
  have zz4 := size_lt hb4
  have KB4 := Lib.hid (chain KB3.out (nextn hb4))
  obtain ⟨a0, a1, a2, af0, af1, af2⟩ := ty_cells Ka4.out
  obtain ⟨b0, b1, b2, bf0, bf1, bf2⟩ := ty_cells Kb4.out
  obtain ⟨c0, c1, c2, cf0, cf1, cf2⟩ := ty_cells Kc4.out
  have lta4 := lt_of_heap Ka4.out
  have ltb4 := lt_of_heap Kb4.out
  have ltc4 := lt_of_heap Kc4.out
  have nwa : ¬ w.heap.size = w4.heap.size := by omega
  have nva : ¬ w4.heap.size = w.heap.size := by omega
  have neac : ¬ w.heap.size = w3.heap.size := by omega
  have neca : ¬ w3.heap.size = w.heap.size := by omega
  have nwb : ¬ w1.heap.size = w4.heap.size := by omega
  have nvb : ¬ w4.heap.size = w1.heap.size := by omega
  have nebc : ¬ w1.heap.size = w3.heap.size := by omega
  have necb : ¬ w3.heap.size = w1.heap.size := by omega
  have nwc : ¬ w3.heap.size = w4.heap.size := by omega
  have nvc : ¬ w4.heap.size = w3.heap.size := by omega
  clear hb4 HIs
  go_wp2_with fail
  refine (HI _).out.mono ?_
  rintro e w5 ⟨rfl, hb5⟩
  have Ka5 := Lib.hid (blk Ka4.out hb5)
  have Kb5 := Lib.hid (blk Kb4.out hb5)
  have Kc5 := Lib.hid (blk Kc4.out hb5)
  have zz5 := hb5.size
  have KB5 := Lib.hid (chain KB4.out hb5)
  obtain ⟨a0, a1, a2, af0, af1, af2⟩ := ty_cells Ka5.out
  obtain ⟨b0, b1, b2, bf0, bf1, bf2⟩ := ty_cells Kb5.out
  obtain ⟨c0, c1, c2, cf0, cf1, cf2⟩ := ty_cells Kc5.out
  have lta5 := lt_of_heap Ka5.out
  have ltb5 := lt_of_heap Kb5.out
  have ltc5 := lt_of_heap Kc5.out
  have nwa : ¬ w.heap.size = w5.heap.size := by omega
  have nva : ¬ w5.heap.size = w.heap.size := by omega
  have nwb : ¬ w1.heap.size = w5.heap.size := by omega
  have nvb : ¬ w5.heap.size = w1.heap.size := by omega
  have nwc : ¬ w3.heap.size = w5.heap.size := by omega
  have nvc : ¬ w5.heap.size = w3.heap.size := by omega
  clear hb5 HI
  go_wp2_with fail
  refine (HR _).out.mono ?_
  rintro e w6 ⟨rfl, hb6⟩
  have zz6 : w5.heap.size ≤ w6.heap.size := by have := hb6.size; simpa using this
  have hc6 := sto hb6
  have Ka6 := Lib.hid ((hc6.block (w.heap.size) lta5).trans (set_other (set_other (set_other Ka5.out neca) neca) neca))
  have Kb6 := Lib.hid ((hc6.block (w1.heap.size) ltb5).trans (set_other (set_other (set_other Kb5.out necb) necb) necb))
  have Kc6 := Lib.hid ((hc6.block (w3.heap.size) ltc5).trans (ty_set Kc5.out))
  have KB6 := Lib.hid ((set3 KB5.out (by omega : w.heap.size ≤ w3.heap.size) _ _ _).trans (hc6.mono (by omega : w.heap.size ≤ w5.heap.size)))
  obtain ⟨a0, a1, a2, af0, af1, af2⟩ := ty_cells Ka6.out
  obtain ⟨b0, b1, b2, bf0, bf1, bf2⟩ := ty_cells Kb6.out
  obtain ⟨c0, c1, c2, cf0, cf1, cf2⟩ := ty_cells Kc6.out
  have lta6 := lt_of_heap Ka6.out
  have ltb6 := lt_of_heap Kb6.out
  have ltc6 := lt_of_heap Kc6.out
  have nwa : ¬ w.heap.size = w6.heap.size := by omega
  have nva : ¬ w6.heap.size = w.heap.size := by omega
  have nwb : ¬ w1.heap.size = w6.heap.size := by omega
  have nvb : ¬ w6.heap.size = w1.heap.size := by omega
  have nwc : ¬ w3.heap.size = w6.heap.size := by omega
  have nvc : ¬ w6.heap.size = w3.heap.size := by omega
  clear hb6 hc6
  go_wp2_with fail
  refine (HL2 _).out.mono ?_
  rintro e w7 ⟨rfl, hb7⟩
  have Ka7 := Lib.hid (blk Ka6.out hb7)
  have Kb7 := Lib.hid (blk Kb6.out hb7)
  have Kc7 := Lib.hid (blk Kc6.out hb7)
  have zz7 := hb7.size
  have KB7 := Lib.hid (chain KB6.out hb7)
  obtain ⟨a0, a1, a2, af0, af1, af2⟩ := ty_cells Ka7.out
  obtain ⟨b0, b1, b2, bf0, bf1, bf2⟩ := ty_cells Kb7.out
  obtain ⟨c0, c1, c2, cf0, cf1, cf2⟩ := ty_cells Kc7.out
  have lta7 := lt_of_heap Ka7.out
  have ltb7 := lt_of_heap Kb7.out
  have ltc7 := lt_of_heap Kc7.out
  have nwa : ¬ w.heap.size = w7.heap.size := by omega
  have nva : ¬ w7.heap.size = w.heap.size := by omega
  have nwb : ¬ w1.heap.size = w7.heap.size := by omega
  have nvb : ¬ w7.heap.size = w1.heap.size := by omega
  have nwc : ¬ w3.heap.size = w7.heap.size := by omega
  have nvc : ¬ w7.heap.size = w3.heap.size := by omega
  clear hb7 HL2
  go_wp2_with fail
  have HS := two_cells (⟨by
    intro p hp
    simp only [List.mem_cons, List.not_mem_nil, or_false] at hp
    rcases hp with rfl | rfl
    · exact blk Ka7.out (below_new' _ _)
    · exact heap_alloc_last _ _, chain KB7.out (below_new' w7 _)⟩ : Keep w (w7.alloc (tyO n l h2)) [(w.heap.size, tyO n l m), (w7.heap.size, tyO n l h2)])
  go_region_held3 (fun w' => w'.cell? ⟨w.heap.size, 0, none⟩ = some (.string n) ∧ w'.cell? ⟨w.heap.size, 1, none⟩ = some (.int .i64 l) ∧ w'.cell? ⟨w.heap.size, 2, none⟩ = some (.int .i64 m) ∧ w'.cell? ⟨w7.heap.size, 0, none⟩ = some (.string n) ∧ w'.cell? ⟨w7.heap.size, 1, none⟩ = some (.int .i64 l) ∧ w'.cell? ⟨w7.heap.size, 2, none⟩ = some (.int .i64 h2) ∧ Keep w w' [(w.heap.size, tyO n l m), (w7.heap.size, tyO n l h2)])
    (first
      | exact two_next (Below.drew (Below.refl _ _)) HS
      | exact two_next (by assumption) (by assumption)
      | exact two_next (by assumption) ⟨by assumption, by assumption, by assumption, by assumption, by assumption, by assumption, by assumption⟩
      | go_keep)
    ((first
      | (go_at_call 21; refine (HBr _).out.mono ?_; rintro e w' ⟨rfl, hb⟩)
      | (go_at_call 8; refine (HA _).out.mono ?_; rintro e w' ⟨rfl, hb⟩)))
  all_goals (go_wp2_with fail; go_ret; exact ⟨rfl, (by assumption : _ ∧ _ ∧ _ ∧ _ ∧ _ ∧ _ ∧ Keep w _ _).2.2.2.2.2.2.2⟩)
theorem LWItems.walk (W : World) (n : ByteArray) (l m : Int) (_ : (Lit.int .i64 l).wf = true) (_ : (Lit.int .i64 m).wf = true) : Calls Try.prog 6 #[.agg #[.string n, .int .i64 l, .int .i64 m]] W fun e w' => e = .returned (.bool true) ∧ Below W.heap.size W w' := by
  by_cases hn : n.size ≤ 2000
  · cases hr : rightT n.data.toList l m
    · exact items_none n l m W hn hr
    · obtain ⟨h1, h2, _, _⟩ := right_small hr
      by_cases h0 : l = 0
      · exact items_zero n l m W hn hr h0
      · by_cases h4 : l = 4
        · exact items_four n l m W hn hr h4
        · exact items_some n l m W hn hr (by omega) (by omega)
  · exact items_big n l m W (by omega)
end Go.Proofs.Ytfinboplkjijhaa
