/- The walk of the law WrapSays. -/
import Derived.Test.YtfinboplkjijhaaLawWBack
namespace Go.Proofs.Ytfinboplkjijhaa
open Go.RowKit

theorem says_cells {w w' : World} {b c d : Nat} {n n' k : ByteArray} {l m l' m' p q : Int} (h : Keep w w' [(b, tyO n l m), (c, tyO n' l' m'), (d, tyO k p q)]) :
    w'.cell? ⟨b, 0, none⟩ = some (.string n) ∧ w'.cell? ⟨b, 1, none⟩ = some (.int .i64 l) ∧ w'.cell? ⟨b, 2, none⟩ = some (.int .i64 m) ∧ w'.cell? ⟨c, 0, none⟩ = some (.string n') ∧ w'.cell? ⟨c, 1, none⟩ = some (.int .i64 l') ∧ w'.cell? ⟨c, 2, none⟩ = some (.int .i64 m') ∧ w'.cell? ⟨d, 0, none⟩ = some (.string k) ∧ w'.cell? ⟨d, 1, none⟩ = some (.int .i64 p) ∧ w'.cell? ⟨d, 2, none⟩ = some (.int .i64 q) ∧ Keep w w' [(b, tyO n l m), (c, tyO n' l' m'), (d, tyO k p q)] := by
  obtain ⟨x0, x1, x2⟩ := shows_of (h.1 (b, tyO n l m) (by simp))
  obtain ⟨y0, y1, y2⟩ := shows_of (h.1 (c, tyO n' l' m') (by simp))
  obtain ⟨z0, z1, z2⟩ := shows_of (h.1 (d, tyO k p q) (by simp))
  exact ⟨x0, x1, x2, y0, y1, y2, z0, z1, z2, h⟩
theorem says_next {w w1 w2 : World} {b c d : Nat} {n n' k : ByteArray} {l m l' m' p q : Int} (hb : Below w1.heap.size w1 w2) (h : w1.cell? ⟨b, 0, none⟩ = some (.string n) ∧ w1.cell? ⟨b, 1, none⟩ = some (.int .i64 l) ∧ w1.cell? ⟨b, 2, none⟩ = some (.int .i64 m) ∧ w1.cell? ⟨c, 0, none⟩ = some (.string n') ∧ w1.cell? ⟨c, 1, none⟩ = some (.int .i64 l') ∧ w1.cell? ⟨c, 2, none⟩ = some (.int .i64 m') ∧ w1.cell? ⟨d, 0, none⟩ = some (.string k) ∧ w1.cell? ⟨d, 1, none⟩ = some (.int .i64 p) ∧ w1.cell? ⟨d, 2, none⟩ = some (.int .i64 q) ∧ Keep w w1 [(b, tyO n l m), (c, tyO n' l' m'), (d, tyO k p q)]) :
    w2.cell? ⟨b, 0, none⟩ = some (.string n) ∧ w2.cell? ⟨b, 1, none⟩ = some (.int .i64 l) ∧ w2.cell? ⟨b, 2, none⟩ = some (.int .i64 m) ∧ w2.cell? ⟨c, 0, none⟩ = some (.string n') ∧ w2.cell? ⟨c, 1, none⟩ = some (.int .i64 l') ∧ w2.cell? ⟨c, 2, none⟩ = some (.int .i64 m') ∧ w2.cell? ⟨d, 0, none⟩ = some (.string k) ∧ w2.cell? ⟨d, 1, none⟩ = some (.int .i64 p) ∧ w2.cell? ⟨d, 2, none⟩ = some (.int .i64 q) ∧ Keep w w2 [(b, tyO n l m), (c, tyO n' l' m'), (d, tyO k p q)] := says_cells (h.2.2.2.2.2.2.2.2.2.next hb)
theorem one_cells {w w' : World} {b : Nat} {n : ByteArray} {l m : Int} (h : Keep w w' [(b, tyO n l m)]) :
    w'.cell? ⟨b, 0, none⟩ = some (.string n) ∧ w'.cell? ⟨b, 1, none⟩ = some (.int .i64 l) ∧ w'.cell? ⟨b, 2, none⟩ = some (.int .i64 m) ∧ Keep w w' [(b, tyO n l m)] := by
  obtain ⟨x0, x1, x2⟩ := shows_of (h.1 (b, tyO n l m) (by simp))
  exact ⟨x0, x1, x2, h⟩
theorem one_next {w w1 w2 : World} {b : Nat} {n : ByteArray} {l m : Int} (hb : Below w1.heap.size w1 w2) (h : w1.cell? ⟨b, 0, none⟩ = some (.string n) ∧ w1.cell? ⟨b, 1, none⟩ = some (.int .i64 l) ∧ w1.cell? ⟨b, 2, none⟩ = some (.int .i64 m) ∧ Keep w w1 [(b, tyO n l m)]) :
    w2.cell? ⟨b, 0, none⟩ = some (.string n) ∧ w2.cell? ⟨b, 1, none⟩ = some (.int .i64 l) ∧ w2.cell? ⟨b, 2, none⟩ = some (.int .i64 m) ∧ Keep w w2 [(b, tyO n l m)] := one_cells (h.2.2.2.next hb)

set_option maxRecDepth 100000 in
set_option maxHeartbeats 2000000 in
theorem says_big (n : ByteArray) (l m : Int) (s : ByteArray) (w : World) (h : 2000 < n.size ∨ 2000 < s.size) : Calls Try.prog 3 #[.agg #[.string n, .int .i64 l, .int .i64 m], .string s] w fun e w' => e = .returned (.bool true) ∧ Below w.heap.size w w' := by
  have HA := fun w => Lib.hid (awake_any w)
  by_cases h1 : 2000 < n.size
  · have t1 : decide ((2000 : Int) < (n.size : Int)) = true := by simp; omega
    go_enter Try.func3, Try.ntmps3
    go_wp2_with fail
    refine (HA _).out.mono ?_
    rintro e w1 ⟨rfl, hb1⟩
    go_wp2_with fail
    go_ret
    exact ⟨rfl, nextn hb1⟩
  · have t1 : decide ((2000 : Int) < (n.size : Int)) = false := by simp; omega
    have t2 : decide ((2000 : Int) < (s.size : Int)) = true := by simp; omega
    clear h h1
    go_enter Try.func3, Try.ntmps3
    go_wp2_with fail
    refine (HA _).out.mono ?_
    rintro e w1 ⟨rfl, hb1⟩
    go_wp2_with fail
    go_ret
    exact ⟨rfl, nextn hb1⟩
set_option maxRecDepth 100000 in
set_option maxHeartbeats 16000000 in
theorem says_no (n s : ByteArray) (l m : Int) (w : World) (hn : n.size ≤ 2000) (hs : s.size ≤ 2000) (P : ByteArray) (v rb ib : Bool) (n1 n2 n3 : ByteArray) (l1 m1 l2 m2 l3 m3 x y : Int)
    (hv : rightT n.data.toList l m = false)
    (HP : ∀ w, Hid (Calls Try.prog 9 #[.agg #[.string n, .int .i64 l, .int .i64 m]] w fun e w' => e = .returned (.tuple #[.string P, .bool false]) ∧ Below w.heap.size w w'))
    (HQ : ∀ w, Hid (Calls Try.prog 10 #[.agg #[.string n, .int .i64 l, .int .i64 m]] w fun e w' => e = .returned (.tuple #[.string P, .bool false]) ∧ Below w.heap.size w w'))
    (hrd : readV (rdB 5 0 0 s.data.toList) = .tuple #[.agg #[.string n1, .int .i64 l1, .int .i64 m1], .bool rb])
    (hit : itemV n l m = .tuple #[.agg #[.string n2, .int .i64 l2, .int .i64 m2], .bool ib])
    (hli : listV n l m = .tuple #[.agg #[.string n3, .int .i64 l3, .int .i64 m3], .bool false])
    (hmu : mustV n l m = .agg #[.string n, .int .i64 l, .int .i64 x])
    (hba : bareV n l m = .agg #[.string n, .int .i64 l, .int .i64 y])
    (his : isB n.data.toList l m = v) :
    Calls Try.prog 3 #[.agg #[.string n, .int .i64 l, .int .i64 m], .string s] w fun e w' => e = .returned (.bool true) ∧ Below w.heap.size w w' := by
  have HA := fun w => Lib.hid (awake_any w)
  have HR := fun w => Lib.hid (right_any n l m w (by omega))
  have HR2 := fun w => Lib.hid (rtright_any n l m w (by omega))
  have HS := fun w => Lib.hid (read_any s w (by omega))
  have HS2 := fun w => Lib.hid (rread_any s w (by omega))
  have HI := fun w => Lib.hid (item_any n l m w (by omega))
  have HI2 := fun w => Lib.hid (ritem_any n l m w (by omega))
  have HL := fun w => Lib.hid (list_any n l m w (by omega))
  have HL2 := fun w => Lib.hid (rlist_any n l m w (by omega))
  have HM := fun w => Lib.hid (must_any n l m w (by omega))
  have HM2 := fun w => Lib.hid (rmust_any n l m w (by omega))
  have HB := fun w => Lib.hid (bare_any n l m w (by omega))
  have HB2 := fun w => Lib.hid (rbare_any n l m w (by omega))
  have HT := fun w => Lib.hid (is_any n l m w (by omega))
  have HT2 := fun w => Lib.hid (ris_any n l m w (by omega))
  rw [hv] at HR HR2
  rw [both_read] at HS2
  rw [hrd] at HS HS2
  rw [hit] at HI HI2
  rw [hli] at HL HL2
  rw [hmu] at HM HM2
  rw [hba] at HB HB2
  rw [his] at HT HT2
  have t1 : decide ((2000 : Int) < (n.size : Int)) = false := by simp; omega
  have t2 : decide ((2000 : Int) < (s.size : Int)) = false := by simp; omega
  clear hn hs hv hrd hit hli hmu hba his
  go_enter Try.func3, Try.ntmps3
  go_wp2_with fail
  refine (HP _).out.mono ?_
  rintro e w1 ⟨rfl, hb1⟩
  have Ka1 := Lib.hid (lastn hb1)
  have zz1 := size_lt hb1
  have KB1 := Lib.hid (nextn hb1)
  obtain ⟨a0, a1, a2, af0, af1, af2⟩ := ty_cells Ka1.out
  have lta1 := lt_of_heap Ka1.out
  have nwa : ¬ w.heap.size = w1.heap.size := by omega
  have nva : ¬ w1.heap.size = w.heap.size := by omega
  clear hb1 HP
  go_wp2_with fail
  refine (HQ _).out.mono ?_
  rintro e w2 ⟨rfl, hb2⟩
  have Ka2 := Lib.hid (blk Ka1.out hb2)
  have zz2 := hb2.size
  have KB2 := Lib.hid (chain KB1.out hb2)
  obtain ⟨a0, a1, a2, af0, af1, af2⟩ := ty_cells Ka2.out
  have lta2 := lt_of_heap Ka2.out
  have nwa : ¬ w.heap.size = w2.heap.size := by omega
  have nva : ¬ w2.heap.size = w.heap.size := by omega
  clear hb2 HQ
  have HC := one_cells (⟨by
    intro z hz
    simp only [List.mem_cons, List.not_mem_nil, or_false] at hz
    subst hz
    exact Ka2.out, KB2.out⟩ : Keep w w2 [(w.heap.size, tyO n l m)])
  go_upto_region 5 with (fail)
  go_cut [45] (fun t wx => t = .bool false ∧ Keep w wx [(w.heap.size, tyO n l m)])
  case first =>
    go_region_held3 (fun w' => w'.cell? ⟨w.heap.size, 0, none⟩ = some (.string n) ∧ w'.cell? ⟨w.heap.size, 1, none⟩ = some (.int .i64 l) ∧ w'.cell? ⟨w.heap.size, 2, none⟩ = some (.int .i64 m) ∧ Keep w w' [(w.heap.size, tyO n l m)])
      (first
        | exact one_next (Below.drew (Below.refl _ _)) HC
        | exact one_next (by assumption) (by assumption)
        | exact one_next (by assumption) ⟨by assumption, by assumption, by assumption, by assumption⟩
        | go_keep)
      ((first
        | (go_at_call 11; refine (HR _).out.mono ?_; rintro e w' ⟨rfl, hb⟩)
        | (go_at_call 12; refine (HR2 _).out.mono ?_; rintro e w' ⟨rfl, hb⟩)))
    all_goals
      have HK := (by assumption : _ ∧ _ ∧ _ ∧ Keep w w' [(w.heap.size, tyO n l m)]).2.2.2
      clear HC
      go_wp2_with fail
      go_meet
      exact ⟨rfl, HK⟩
  case rest =>
    obtain ⟨rfl, HK⟩ := hcut
    have Ka3 := Lib.hid (HK.1 (w.heap.size, tyO n l m) (by simp))
    have KB3 := Lib.hid HK.2
    obtain ⟨a0, a1, a2, af0, af1, af2⟩ := ty_cells Ka3.out
    have lta3 := lt_of_heap Ka3.out
    have nwa : ¬ w.heap.size = wc.heap.size := by simp only at lta3; omega
    have nva : ¬ wc.heap.size = w.heap.size := by simp only at lta3; omega
    clear HC HK HR HR2 zz2 nwa nva lta2
    go_wp2_with fail
    refine (HS _).out.mono ?_
    rintro e w4 ⟨rfl, hb4⟩
    have Ka4 := Lib.hid (blk Ka3.out hb4)
    have zz4 := hb4.size
    have KB4 := Lib.hid (chain KB3.out hb4)
    obtain ⟨a0, a1, a2, af0, af1, af2⟩ := ty_cells Ka4.out
    have lta4 := lt_of_heap Ka4.out
    have nwa : ¬ w.heap.size = w4.heap.size := by omega
    have nva : ¬ w4.heap.size = w.heap.size := by omega
    clear hb4 HS
    go_wp2_with fail
    refine (HS2 _).out.mono ?_
    rintro e w5 ⟨rfl, hb5⟩
    have Ka5 := Lib.hid (blkn Ka4.out hb5)
    have Kb5 := Lib.hid (lastn hb5)
    have zz5 := size_lt hb5
    have KB5 := Lib.hid (chain KB4.out (nextn hb5))
    obtain ⟨a0, a1, a2, af0, af1, af2⟩ := ty_cells Ka5.out
    obtain ⟨b0, b1, b2, bf0, bf1, bf2⟩ := ty_cells Kb5.out
    have lta5 := lt_of_heap Ka5.out
    have ltb5 := lt_of_heap Kb5.out
    have nwa : ¬ w.heap.size = w5.heap.size := by omega
    have nva : ¬ w5.heap.size = w.heap.size := by omega
    have neab : ¬ w.heap.size = w4.heap.size := by omega
    have neba : ¬ w4.heap.size = w.heap.size := by omega
    have nwb : ¬ w4.heap.size = w5.heap.size := by omega
    have nvb : ¬ w5.heap.size = w4.heap.size := by omega
    clear hb5 HS2
    go_wp2_with fail
    refine (HI _).out.mono ?_
    rintro e w6 ⟨rfl, hb6⟩
    have Ka6 := Lib.hid (blkn Ka5.out hb6)
    have Kb6 := Lib.hid (blkn Kb5.out hb6)
    have Kc6 := Lib.hid (lastn hb6)
    have zz6 := size_lt hb6
    have KB6 := Lib.hid (chain KB5.out (nextn hb6))
    obtain ⟨a0, a1, a2, af0, af1, af2⟩ := ty_cells Ka6.out
    obtain ⟨b0, b1, b2, bf0, bf1, bf2⟩ := ty_cells Kb6.out
    obtain ⟨c0, c1, c2, cf0, cf1, cf2⟩ := ty_cells Kc6.out
    have lta6 := lt_of_heap Ka6.out
    have ltb6 := lt_of_heap Kb6.out
    have ltc6 := lt_of_heap Kc6.out
    have nwa : ¬ w.heap.size = w6.heap.size := by omega
    have nva : ¬ w6.heap.size = w.heap.size := by omega
    have neac : ¬ w.heap.size = w5.heap.size := by omega
    have neca : ¬ w5.heap.size = w.heap.size := by omega
    have nwb : ¬ w4.heap.size = w6.heap.size := by omega
    have nvb : ¬ w6.heap.size = w4.heap.size := by omega
    have nebc : ¬ w4.heap.size = w5.heap.size := by omega
    have necb : ¬ w5.heap.size = w4.heap.size := by omega
    have nwc : ¬ w5.heap.size = w6.heap.size := by omega
    have nvc : ¬ w6.heap.size = w5.heap.size := by omega
    clear hb6 HI
    go_wp2_with fail
    refine (HI2 _).out.mono ?_
    rintro e w7 ⟨rfl, hb7⟩
    have zz7 : w6.heap.size ≤ w7.heap.size := by have := hb7.size; simpa using this
    have hc7 := sto hb7
    have Ka7 := Lib.hid ((hc7.block (w.heap.size) lta6).trans (set_other (set_other (set_other Ka6.out neba) neba) neba))
    have Kb7 := Lib.hid ((hc7.block (w4.heap.size) ltb6).trans (ty_set Kb6.out))
    have Kc7 := Lib.hid ((hc7.block (w5.heap.size) ltc6).trans (set_other (set_other (set_other Kc6.out nebc) nebc) nebc))
    have KB7 := Lib.hid ((set3 KB6.out (by omega : w.heap.size ≤ w4.heap.size) _ _ _).trans (hc7.mono (by omega : w.heap.size ≤ w6.heap.size)))
    obtain ⟨a0, a1, a2, af0, af1, af2⟩ := ty_cells Ka7.out
    obtain ⟨b0, b1, b2, bf0, bf1, bf2⟩ := ty_cells Kb7.out
    obtain ⟨c0, c1, c2, cf0, cf1, cf2⟩ := ty_cells Kc7.out
    have lta7 := lt_of_heap Ka7.out
    have ltb7 := lt_of_heap Kb7.out
    have ltc7 := lt_of_heap Kc7.out
    have nwa : ¬ w.heap.size = w7.heap.size := by omega
    have nva : ¬ w7.heap.size = w.heap.size := by omega
    have nwb : ¬ w4.heap.size = w7.heap.size := by omega
    have nvb : ¬ w7.heap.size = w4.heap.size := by omega
    have nwc : ¬ w5.heap.size = w7.heap.size := by omega
    have nvc : ¬ w7.heap.size = w5.heap.size := by omega
    clear hb7 hc7 HI2
    go_wp2_with fail
    refine (HL _).out.mono ?_
    rintro e w8 ⟨rfl, hb8⟩
    have zz8 : w7.heap.size ≤ w8.heap.size := by have := hb8.size; simpa using this
    have hc8 := sto hb8
    have Ka8 := Lib.hid ((hc8.block (w.heap.size) lta7).trans (set_other (set_other (set_other Ka7.out neca) neca) neca))
    have Kb8 := Lib.hid ((hc8.block (w4.heap.size) ltb7).trans (set_other (set_other (set_other Kb7.out necb) necb) necb))
    have Kc8 := Lib.hid ((hc8.block (w5.heap.size) ltc7).trans (ty_set Kc7.out))
    have KB8 := Lib.hid ((set3 KB7.out (by omega : w.heap.size ≤ w5.heap.size) _ _ _).trans (hc8.mono (by omega : w.heap.size ≤ w7.heap.size)))
    obtain ⟨a0, a1, a2, af0, af1, af2⟩ := ty_cells Ka8.out
    obtain ⟨b0, b1, b2, bf0, bf1, bf2⟩ := ty_cells Kb8.out
    obtain ⟨c0, c1, c2, cf0, cf1, cf2⟩ := ty_cells Kc8.out
    have lta8 := lt_of_heap Ka8.out
    have ltb8 := lt_of_heap Kb8.out
    have ltc8 := lt_of_heap Kc8.out
    have nwa : ¬ w.heap.size = w8.heap.size := by omega
    have nva : ¬ w8.heap.size = w.heap.size := by omega
    have nwb : ¬ w4.heap.size = w8.heap.size := by omega
    have nvb : ¬ w8.heap.size = w4.heap.size := by omega
    have nwc : ¬ w5.heap.size = w8.heap.size := by omega
    have nvc : ¬ w8.heap.size = w5.heap.size := by omega
    clear hb8 hc8 HL
    go_wp2_with fail
    refine (HL2 _).out.mono ?_
    rintro e w9 ⟨rfl, hb9⟩
    have zz9 : w8.heap.size ≤ w9.heap.size := by have := hb9.size; simpa using this
    have hc9 := sto hb9
    have Ka9 := Lib.hid ((hc9.block (w.heap.size) lta8).trans (set_other (set_other (set_other Ka8.out neba) neba) neba))
    have Kb9 := Lib.hid ((hc9.block (w4.heap.size) ltb8).trans (ty_set Kb8.out))
    have Kc9 := Lib.hid ((hc9.block (w5.heap.size) ltc8).trans (set_other (set_other (set_other Kc8.out nebc) nebc) nebc))
    have KB9 := Lib.hid ((set3 KB8.out (by omega : w.heap.size ≤ w4.heap.size) _ _ _).trans (hc9.mono (by omega : w.heap.size ≤ w8.heap.size)))
    obtain ⟨a0, a1, a2, af0, af1, af2⟩ := ty_cells Ka9.out
    obtain ⟨b0, b1, b2, bf0, bf1, bf2⟩ := ty_cells Kb9.out
    obtain ⟨c0, c1, c2, cf0, cf1, cf2⟩ := ty_cells Kc9.out
    have lta9 := lt_of_heap Ka9.out
    have ltb9 := lt_of_heap Kb9.out
    have ltc9 := lt_of_heap Kc9.out
    have nwa : ¬ w.heap.size = w9.heap.size := by omega
    have nva : ¬ w9.heap.size = w.heap.size := by omega
    have nwb : ¬ w4.heap.size = w9.heap.size := by omega
    have nvb : ¬ w9.heap.size = w4.heap.size := by omega
    have nwc : ¬ w5.heap.size = w9.heap.size := by omega
    have nvc : ¬ w9.heap.size = w5.heap.size := by omega
    clear hb9 hc9 HL2
    go_wp2_with fail
    have HC := says_cells (⟨by
      intro z hz
      simp only [List.mem_cons, List.not_mem_nil, or_false] at hz
      rcases hz with rfl | rfl | rfl
      · exact set_other (set_other (set_other Ka9.out neca) neca) neca
      · exact set_other (set_other (set_other Kb9.out necb) necb) necb
      · exact ty_set Kc9.out, set3 KB9.out (by omega) _ _ _⟩ : Keep w (((w9.setCell ⟨w5.heap.size, 0, none⟩ (.string n3)).setCell ⟨w5.heap.size, 1, none⟩ (.int .i64 l3)).setCell ⟨w5.heap.size, 2, none⟩ (.int .i64 m3)) [(w.heap.size, tyO n l m), (w4.heap.size, tyO n3 l3 m3), (w5.heap.size, tyO n3 l3 m3)])
    go_region_held3 (fun w' => w'.cell? ⟨w.heap.size, 0, none⟩ = some (.string n) ∧ w'.cell? ⟨w.heap.size, 1, none⟩ = some (.int .i64 l) ∧ w'.cell? ⟨w.heap.size, 2, none⟩ = some (.int .i64 m) ∧ w'.cell? ⟨w4.heap.size, 0, none⟩ = some (.string n3) ∧ w'.cell? ⟨w4.heap.size, 1, none⟩ = some (.int .i64 l3) ∧ w'.cell? ⟨w4.heap.size, 2, none⟩ = some (.int .i64 m3) ∧ w'.cell? ⟨w5.heap.size, 0, none⟩ = some (.string n3) ∧ w'.cell? ⟨w5.heap.size, 1, none⟩ = some (.int .i64 l3) ∧ w'.cell? ⟨w5.heap.size, 2, none⟩ = some (.int .i64 m3) ∧ Keep w w' [(w.heap.size, tyO n l m), (w4.heap.size, tyO n3 l3 m3), (w5.heap.size, tyO n3 l3 m3)])
      (first
        | exact says_next (Below.drew (Below.refl _ _)) HC
        | exact says_next (by assumption) (by assumption)
        | exact says_next (by assumption) ⟨by assumption, by assumption, by assumption, by assumption, by assumption, by assumption, by assumption, by assumption, by assumption, by assumption⟩
        | go_keep)
      ((first
        | (go_at_call 19; refine (HM _).out.mono ?_; rintro e w' ⟨rfl, hb⟩)
        | (go_at_call 20; refine (HM2 _).out.mono ?_; rintro e w' ⟨rfl, hb⟩)
        | (go_at_call 21; refine (HB _).out.mono ?_; rintro e w' ⟨rfl, hb⟩)
        | (go_at_call 22; refine (HB2 _).out.mono ?_; rintro e w' ⟨rfl, hb⟩)
        | (go_at_call 23; refine (HT _).out.mono ?_; rintro e w' ⟨rfl, hb⟩)
        | (go_at_call 24; refine (HT2 _).out.mono ?_; rintro e w' ⟨rfl, hb⟩)
        | (go_at_call 8; refine (HA _).out.mono ?_; rintro e w' ⟨rfl, hb⟩)))
    all_goals (go_wp2_with fail; go_ret; exact ⟨rfl, (by assumption : _ ∧ _ ∧ _ ∧ _ ∧ _ ∧ _ ∧ _ ∧ _ ∧ _ ∧ Keep w _ _).2.2.2.2.2.2.2.2.2.2⟩)
set_option maxRecDepth 100000 in
set_option maxHeartbeats 16000000 in
theorem says_some (n s : ByteArray) (l m : Int) (w : World) (hn : n.size ≤ 2000) (hs : s.size ≤ 2000) (P : ByteArray) (v rb ib : Bool) (n1 n2 n3 : ByteArray) (l1 m1 l2 m2 l3 m3 x y : Int)
    (hv : rightT n.data.toList l m = true)
    (HP : ∀ w, Hid (Calls Try.prog 9 #[.agg #[.string n, .int .i64 l, .int .i64 m]] w fun e w' => e = .returned (.tuple #[.string P, .bool true]) ∧ Below w.heap.size w w'))
    (HQ : ∀ w, Hid (Calls Try.prog 10 #[.agg #[.string n, .int .i64 l, .int .i64 m]] w fun e w' => e = .returned (.tuple #[.string P, .bool true]) ∧ Below w.heap.size w w'))
    (hrd : readV (rdB 5 0 0 s.data.toList) = .tuple #[.agg #[.string n1, .int .i64 l1, .int .i64 m1], .bool rb])
    (hit : itemV n l m = .tuple #[.agg #[.string n2, .int .i64 l2, .int .i64 m2], .bool ib])
    (hli : listV n l m = .tuple #[.agg #[.string n3, .int .i64 l3, .int .i64 m3], .bool true])
    (hmu : mustV n l m = .agg #[.string n, .int .i64 l, .int .i64 x])
    (hba : bareV n l m = .agg #[.string n, .int .i64 l, .int .i64 y])
    (his : isB n.data.toList l m = v) :
    Calls Try.prog 3 #[.agg #[.string n, .int .i64 l, .int .i64 m], .string s] w fun e w' => e = .returned (.bool true) ∧ Below w.heap.size w w' := by
  have HA := fun w => Lib.hid (awake_any w)
  have HR := fun w => Lib.hid (right_any n l m w (by omega))
  have HR2 := fun w => Lib.hid (rtright_any n l m w (by omega))
  have HS := fun w => Lib.hid (read_any s w (by omega))
  have HS2 := fun w => Lib.hid (rread_any s w (by omega))
  have HI := fun w => Lib.hid (item_any n l m w (by omega))
  have HI2 := fun w => Lib.hid (ritem_any n l m w (by omega))
  have HL := fun w => Lib.hid (list_any n l m w (by omega))
  have HL2 := fun w => Lib.hid (rlist_any n l m w (by omega))
  have HM := fun w => Lib.hid (must_any n l m w (by omega))
  have HM2 := fun w => Lib.hid (rmust_any n l m w (by omega))
  have HB := fun w => Lib.hid (bare_any n l m w (by omega))
  have HB2 := fun w => Lib.hid (rbare_any n l m w (by omega))
  have HT := fun w => Lib.hid (is_any n l m w (by omega))
  have HT2 := fun w => Lib.hid (ris_any n l m w (by omega))
  rw [hv] at HR HR2
  rw [both_read] at HS2
  rw [hrd] at HS HS2
  rw [hit] at HI HI2
  rw [hli] at HL HL2
  rw [hmu] at HM HM2
  rw [hba] at HB HB2
  rw [his] at HT HT2
  have t1 : decide ((2000 : Int) < (n.size : Int)) = false := by simp; omega
  have t2 : decide ((2000 : Int) < (s.size : Int)) = false := by simp; omega
  clear hn hs hv hrd hit hli hmu hba his
  go_enter Try.func3, Try.ntmps3
  go_wp2_with fail
  refine (HP _).out.mono ?_
  rintro e w1 ⟨rfl, hb1⟩
  have Ka1 := Lib.hid (lastn hb1)
  have zz1 := size_lt hb1
  have KB1 := Lib.hid (nextn hb1)
  obtain ⟨a0, a1, a2, af0, af1, af2⟩ := ty_cells Ka1.out
  have lta1 := lt_of_heap Ka1.out
  have nwa : ¬ w.heap.size = w1.heap.size := by omega
  have nva : ¬ w1.heap.size = w.heap.size := by omega
  clear hb1 HP
  go_wp2_with fail
  refine (HQ _).out.mono ?_
  rintro e w2 ⟨rfl, hb2⟩
  have Ka2 := Lib.hid (blk Ka1.out hb2)
  have zz2 := hb2.size
  have KB2 := Lib.hid (chain KB1.out hb2)
  obtain ⟨a0, a1, a2, af0, af1, af2⟩ := ty_cells Ka2.out
  have lta2 := lt_of_heap Ka2.out
  have nwa : ¬ w.heap.size = w2.heap.size := by omega
  have nva : ¬ w2.heap.size = w.heap.size := by omega
  clear hb2 HQ
  have HC := one_cells (⟨by
    intro z hz
    simp only [List.mem_cons, List.not_mem_nil, or_false] at hz
    subst hz
    exact Ka2.out, KB2.out⟩ : Keep w w2 [(w.heap.size, tyO n l m)])
  go_upto_region 5 with (fail)
  go_cut [45] (fun t wx => t = .bool false ∧ Keep w wx [(w.heap.size, tyO n l m)])
  case first =>
    go_region_held3 (fun w' => w'.cell? ⟨w.heap.size, 0, none⟩ = some (.string n) ∧ w'.cell? ⟨w.heap.size, 1, none⟩ = some (.int .i64 l) ∧ w'.cell? ⟨w.heap.size, 2, none⟩ = some (.int .i64 m) ∧ Keep w w' [(w.heap.size, tyO n l m)])
      (first
        | exact one_next (Below.drew (Below.refl _ _)) HC
        | exact one_next (by assumption) (by assumption)
        | exact one_next (by assumption) ⟨by assumption, by assumption, by assumption, by assumption⟩
        | go_keep)
      ((first
        | (go_at_call 11; refine (HR _).out.mono ?_; rintro e w' ⟨rfl, hb⟩)
        | (go_at_call 12; refine (HR2 _).out.mono ?_; rintro e w' ⟨rfl, hb⟩)))
    all_goals
      have HK := (by assumption : _ ∧ _ ∧ _ ∧ Keep w w' [(w.heap.size, tyO n l m)]).2.2.2
      clear HC
      go_wp2_with fail
      go_meet
      exact ⟨rfl, HK⟩
  case rest =>
    obtain ⟨rfl, HK⟩ := hcut
    have Ka3 := Lib.hid (HK.1 (w.heap.size, tyO n l m) (by simp))
    have KB3 := Lib.hid HK.2
    obtain ⟨a0, a1, a2, af0, af1, af2⟩ := ty_cells Ka3.out
    have lta3 := lt_of_heap Ka3.out
    have nwa : ¬ w.heap.size = wc.heap.size := by simp only at lta3; omega
    have nva : ¬ wc.heap.size = w.heap.size := by simp only at lta3; omega
    clear HC HK HR HR2 zz2 nwa nva lta2
    go_wp2_with fail
    refine (HS _).out.mono ?_
    rintro e w4 ⟨rfl, hb4⟩
    have Ka4 := Lib.hid (blk Ka3.out hb4)
    have zz4 := hb4.size
    have KB4 := Lib.hid (chain KB3.out hb4)
    obtain ⟨a0, a1, a2, af0, af1, af2⟩ := ty_cells Ka4.out
    have lta4 := lt_of_heap Ka4.out
    have nwa : ¬ w.heap.size = w4.heap.size := by omega
    have nva : ¬ w4.heap.size = w.heap.size := by omega
    clear hb4 HS
    go_wp2_with fail
    refine (HS2 _).out.mono ?_
    rintro e w5 ⟨rfl, hb5⟩
    have Ka5 := Lib.hid (blkn Ka4.out hb5)
    have Kb5 := Lib.hid (lastn hb5)
    have zz5 := size_lt hb5
    have KB5 := Lib.hid (chain KB4.out (nextn hb5))
    obtain ⟨a0, a1, a2, af0, af1, af2⟩ := ty_cells Ka5.out
    obtain ⟨b0, b1, b2, bf0, bf1, bf2⟩ := ty_cells Kb5.out
    have lta5 := lt_of_heap Ka5.out
    have ltb5 := lt_of_heap Kb5.out
    have nwa : ¬ w.heap.size = w5.heap.size := by omega
    have nva : ¬ w5.heap.size = w.heap.size := by omega
    have neab : ¬ w.heap.size = w4.heap.size := by omega
    have neba : ¬ w4.heap.size = w.heap.size := by omega
    have nwb : ¬ w4.heap.size = w5.heap.size := by omega
    have nvb : ¬ w5.heap.size = w4.heap.size := by omega
    clear hb5 HS2
    go_wp2_with fail
    refine (HI _).out.mono ?_
    rintro e w6 ⟨rfl, hb6⟩
    have Ka6 := Lib.hid (blkn Ka5.out hb6)
    have Kb6 := Lib.hid (blkn Kb5.out hb6)
    have Kc6 := Lib.hid (lastn hb6)
    have zz6 := size_lt hb6
    have KB6 := Lib.hid (chain KB5.out (nextn hb6))
    obtain ⟨a0, a1, a2, af0, af1, af2⟩ := ty_cells Ka6.out
    obtain ⟨b0, b1, b2, bf0, bf1, bf2⟩ := ty_cells Kb6.out
    obtain ⟨c0, c1, c2, cf0, cf1, cf2⟩ := ty_cells Kc6.out
    have lta6 := lt_of_heap Ka6.out
    have ltb6 := lt_of_heap Kb6.out
    have ltc6 := lt_of_heap Kc6.out
    have nwa : ¬ w.heap.size = w6.heap.size := by omega
    have nva : ¬ w6.heap.size = w.heap.size := by omega
    have neac : ¬ w.heap.size = w5.heap.size := by omega
    have neca : ¬ w5.heap.size = w.heap.size := by omega
    have nwb : ¬ w4.heap.size = w6.heap.size := by omega
    have nvb : ¬ w6.heap.size = w4.heap.size := by omega
    have nebc : ¬ w4.heap.size = w5.heap.size := by omega
    have necb : ¬ w5.heap.size = w4.heap.size := by omega
    have nwc : ¬ w5.heap.size = w6.heap.size := by omega
    have nvc : ¬ w6.heap.size = w5.heap.size := by omega
    clear hb6 HI
    go_wp2_with fail
    refine (HI2 _).out.mono ?_
    rintro e w7 ⟨rfl, hb7⟩
    have zz7 : w6.heap.size ≤ w7.heap.size := by have := hb7.size; simpa using this
    have hc7 := sto hb7
    have Ka7 := Lib.hid ((hc7.block (w.heap.size) lta6).trans (set_other (set_other (set_other Ka6.out neba) neba) neba))
    have Kb7 := Lib.hid ((hc7.block (w4.heap.size) ltb6).trans (ty_set Kb6.out))
    have Kc7 := Lib.hid ((hc7.block (w5.heap.size) ltc6).trans (set_other (set_other (set_other Kc6.out nebc) nebc) nebc))
    have KB7 := Lib.hid ((set3 KB6.out (by omega : w.heap.size ≤ w4.heap.size) _ _ _).trans (hc7.mono (by omega : w.heap.size ≤ w6.heap.size)))
    obtain ⟨a0, a1, a2, af0, af1, af2⟩ := ty_cells Ka7.out
    obtain ⟨b0, b1, b2, bf0, bf1, bf2⟩ := ty_cells Kb7.out
    obtain ⟨c0, c1, c2, cf0, cf1, cf2⟩ := ty_cells Kc7.out
    have lta7 := lt_of_heap Ka7.out
    have ltb7 := lt_of_heap Kb7.out
    have ltc7 := lt_of_heap Kc7.out
    have nwa : ¬ w.heap.size = w7.heap.size := by omega
    have nva : ¬ w7.heap.size = w.heap.size := by omega
    have nwb : ¬ w4.heap.size = w7.heap.size := by omega
    have nvb : ¬ w7.heap.size = w4.heap.size := by omega
    have nwc : ¬ w5.heap.size = w7.heap.size := by omega
    have nvc : ¬ w7.heap.size = w5.heap.size := by omega
    clear hb7 hc7 HI2
    go_wp2_with fail
    refine (HL _).out.mono ?_
    rintro e w8 ⟨rfl, hb8⟩
    have zz8 : w7.heap.size ≤ w8.heap.size := by have := hb8.size; simpa using this
    have hc8 := sto hb8
    have Ka8 := Lib.hid ((hc8.block (w.heap.size) lta7).trans (set_other (set_other (set_other Ka7.out neca) neca) neca))
    have Kb8 := Lib.hid ((hc8.block (w4.heap.size) ltb7).trans (set_other (set_other (set_other Kb7.out necb) necb) necb))
    have Kc8 := Lib.hid ((hc8.block (w5.heap.size) ltc7).trans (ty_set Kc7.out))
    have KB8 := Lib.hid ((set3 KB7.out (by omega : w.heap.size ≤ w5.heap.size) _ _ _).trans (hc8.mono (by omega : w.heap.size ≤ w7.heap.size)))
    obtain ⟨a0, a1, a2, af0, af1, af2⟩ := ty_cells Ka8.out
    obtain ⟨b0, b1, b2, bf0, bf1, bf2⟩ := ty_cells Kb8.out
    obtain ⟨c0, c1, c2, cf0, cf1, cf2⟩ := ty_cells Kc8.out
    have lta8 := lt_of_heap Ka8.out
    have ltb8 := lt_of_heap Kb8.out
    have ltc8 := lt_of_heap Kc8.out
    have nwa : ¬ w.heap.size = w8.heap.size := by omega
    have nva : ¬ w8.heap.size = w.heap.size := by omega
    have nwb : ¬ w4.heap.size = w8.heap.size := by omega
    have nvb : ¬ w8.heap.size = w4.heap.size := by omega
    have nwc : ¬ w5.heap.size = w8.heap.size := by omega
    have nvc : ¬ w8.heap.size = w5.heap.size := by omega
    clear hb8 hc8 HL
    go_wp2_with fail
    refine (HL2 _).out.mono ?_
    rintro e w9 ⟨rfl, hb9⟩
    have zz9 : w8.heap.size ≤ w9.heap.size := by have := hb9.size; simpa using this
    have hc9 := sto hb9
    have Ka9 := Lib.hid ((hc9.block (w.heap.size) lta8).trans (set_other (set_other (set_other Ka8.out neba) neba) neba))
    have Kb9 := Lib.hid ((hc9.block (w4.heap.size) ltb8).trans (ty_set Kb8.out))
    have Kc9 := Lib.hid ((hc9.block (w5.heap.size) ltc8).trans (set_other (set_other (set_other Kc8.out nebc) nebc) nebc))
    have KB9 := Lib.hid ((set3 KB8.out (by omega : w.heap.size ≤ w4.heap.size) _ _ _).trans (hc9.mono (by omega : w.heap.size ≤ w8.heap.size)))
    obtain ⟨a0, a1, a2, af0, af1, af2⟩ := ty_cells Ka9.out
    obtain ⟨b0, b1, b2, bf0, bf1, bf2⟩ := ty_cells Kb9.out
    obtain ⟨c0, c1, c2, cf0, cf1, cf2⟩ := ty_cells Kc9.out
    have lta9 := lt_of_heap Ka9.out
    have ltb9 := lt_of_heap Kb9.out
    have ltc9 := lt_of_heap Kc9.out
    have nwa : ¬ w.heap.size = w9.heap.size := by omega
    have nva : ¬ w9.heap.size = w.heap.size := by omega
    have nwb : ¬ w4.heap.size = w9.heap.size := by omega
    have nvb : ¬ w9.heap.size = w4.heap.size := by omega
    have nwc : ¬ w5.heap.size = w9.heap.size := by omega
    have nvc : ¬ w9.heap.size = w5.heap.size := by omega
    clear hb9 hc9 HL2
    go_wp2_with fail
    have HC := says_cells (⟨by
      intro z hz
      simp only [List.mem_cons, List.not_mem_nil, or_false] at hz
      rcases hz with rfl | rfl | rfl
      · exact set_other (set_other (set_other Ka9.out neca) neca) neca
      · exact set_other (set_other (set_other Kb9.out necb) necb) necb
      · exact ty_set Kc9.out, set3 KB9.out (by omega) _ _ _⟩ : Keep w (((w9.setCell ⟨w5.heap.size, 0, none⟩ (.string n3)).setCell ⟨w5.heap.size, 1, none⟩ (.int .i64 l3)).setCell ⟨w5.heap.size, 2, none⟩ (.int .i64 m3)) [(w.heap.size, tyO n l m), (w4.heap.size, tyO n3 l3 m3), (w5.heap.size, tyO n3 l3 m3)])
    go_region_held3 (fun w' => w'.cell? ⟨w.heap.size, 0, none⟩ = some (.string n) ∧ w'.cell? ⟨w.heap.size, 1, none⟩ = some (.int .i64 l) ∧ w'.cell? ⟨w.heap.size, 2, none⟩ = some (.int .i64 m) ∧ w'.cell? ⟨w4.heap.size, 0, none⟩ = some (.string n3) ∧ w'.cell? ⟨w4.heap.size, 1, none⟩ = some (.int .i64 l3) ∧ w'.cell? ⟨w4.heap.size, 2, none⟩ = some (.int .i64 m3) ∧ w'.cell? ⟨w5.heap.size, 0, none⟩ = some (.string n3) ∧ w'.cell? ⟨w5.heap.size, 1, none⟩ = some (.int .i64 l3) ∧ w'.cell? ⟨w5.heap.size, 2, none⟩ = some (.int .i64 m3) ∧ Keep w w' [(w.heap.size, tyO n l m), (w4.heap.size, tyO n3 l3 m3), (w5.heap.size, tyO n3 l3 m3)])
      (first
        | exact says_next (Below.drew (Below.refl _ _)) HC
        | exact says_next (by assumption) (by assumption)
        | exact says_next (by assumption) ⟨by assumption, by assumption, by assumption, by assumption, by assumption, by assumption, by assumption, by assumption, by assumption, by assumption⟩
        | go_keep)
      ((first
        | (go_at_call 19; refine (HM _).out.mono ?_; rintro e w' ⟨rfl, hb⟩)
        | (go_at_call 20; refine (HM2 _).out.mono ?_; rintro e w' ⟨rfl, hb⟩)
        | (go_at_call 21; refine (HB _).out.mono ?_; rintro e w' ⟨rfl, hb⟩)
        | (go_at_call 22; refine (HB2 _).out.mono ?_; rintro e w' ⟨rfl, hb⟩)
        | (go_at_call 23; refine (HT _).out.mono ?_; rintro e w' ⟨rfl, hb⟩)
        | (go_at_call 24; refine (HT2 _).out.mono ?_; rintro e w' ⟨rfl, hb⟩)
        | (go_at_call 8; refine (HA _).out.mono ?_; rintro e w' ⟨rfl, hb⟩)))
    all_goals (go_wp2_with fail; go_ret; exact ⟨rfl, (by assumption : _ ∧ _ ∧ _ ∧ _ ∧ _ ∧ _ ∧ _ ∧ _ ∧ _ ∧ Keep w _ _).2.2.2.2.2.2.2.2.2.2⟩)
set_option maxRecDepth 100000 in
set_option maxHeartbeats 16000000 in
theorem says_four (n s : ByteArray) (l m : Int) (w : World) (hn : n.size ≤ 2000) (hs : s.size ≤ 2000) (P : ByteArray) (v rb ib : Bool) (n1 n2 n3 : ByteArray) (l1 m1 l2 m2 l3 m3 x y : Int)
    (hv : rightT n.data.toList l m = true)
    (HP : ∀ w, Hid (Calls Try.prog 9 #[.agg #[.string n, .int .i64 l, .int .i64 m]] w fun e w' => e = .returned (.tuple #[.string P, .bool true]) ∧ Below w.heap.size w w'))
    (HQ : ∀ w, Hid (Calls Try.prog 10 #[.agg #[.string n, .int .i64 l, .int .i64 m]] w fun e w' => e = .returned (.tuple #[.string P, .bool true]) ∧ Below w.heap.size w w'))
    (hrd : readV (rdB 5 0 0 s.data.toList) = .tuple #[.agg #[.string n1, .int .i64 l1, .int .i64 m1], .bool rb])
    (hit : itemV n l m = .tuple #[.agg #[.string n2, .int .i64 l2, .int .i64 m2], .bool ib])
    (hli : listV n l m = .tuple #[.agg #[.string n3, .int .i64 l3, .int .i64 m3], .bool false])
    (hmu : mustV n l m = .agg #[.string n, .int .i64 l, .int .i64 x])
    (hba : bareV n l m = .agg #[.string n, .int .i64 l, .int .i64 y])
    (his : isB n.data.toList l m = v) :
    Calls Try.prog 3 #[.agg #[.string n, .int .i64 l, .int .i64 m], .string s] w fun e w' => e = .returned (.bool true) ∧ Below w.heap.size w w' := by
  have HA := fun w => Lib.hid (awake_any w)
  have HR := fun w => Lib.hid (right_any n l m w (by omega))
  have HR2 := fun w => Lib.hid (rtright_any n l m w (by omega))
  have HS := fun w => Lib.hid (read_any s w (by omega))
  have HS2 := fun w => Lib.hid (rread_any s w (by omega))
  have HI := fun w => Lib.hid (item_any n l m w (by omega))
  have HI2 := fun w => Lib.hid (ritem_any n l m w (by omega))
  have HL := fun w => Lib.hid (list_any n l m w (by omega))
  have HL2 := fun w => Lib.hid (rlist_any n l m w (by omega))
  have HM := fun w => Lib.hid (must_any n l m w (by omega))
  have HM2 := fun w => Lib.hid (rmust_any n l m w (by omega))
  have HB := fun w => Lib.hid (bare_any n l m w (by omega))
  have HB2 := fun w => Lib.hid (rbare_any n l m w (by omega))
  have HT := fun w => Lib.hid (is_any n l m w (by omega))
  have HT2 := fun w => Lib.hid (ris_any n l m w (by omega))
  rw [hv] at HR HR2
  rw [both_read] at HS2
  rw [hrd] at HS HS2
  rw [hit] at HI HI2
  rw [hli] at HL HL2
  rw [hmu] at HM HM2
  rw [hba] at HB HB2
  rw [his] at HT HT2
  have t1 : decide ((2000 : Int) < (n.size : Int)) = false := by simp; omega
  have t2 : decide ((2000 : Int) < (s.size : Int)) = false := by simp; omega
  clear hn hs hv hrd hit hli hmu hba his
  go_enter Try.func3, Try.ntmps3
  go_wp2_with fail
  refine (HP _).out.mono ?_
  rintro e w1 ⟨rfl, hb1⟩
  have Ka1 := Lib.hid (lastn hb1)
  have zz1 := size_lt hb1
  have KB1 := Lib.hid (nextn hb1)
  obtain ⟨a0, a1, a2, af0, af1, af2⟩ := ty_cells Ka1.out
  have lta1 := lt_of_heap Ka1.out
  have nwa : ¬ w.heap.size = w1.heap.size := by omega
  have nva : ¬ w1.heap.size = w.heap.size := by omega
  clear hb1 HP
  go_wp2_with fail
  refine (HQ _).out.mono ?_
  rintro e w2 ⟨rfl, hb2⟩
  have Ka2 := Lib.hid (blk Ka1.out hb2)
  have zz2 := hb2.size
  have KB2 := Lib.hid (chain KB1.out hb2)
  obtain ⟨a0, a1, a2, af0, af1, af2⟩ := ty_cells Ka2.out
  have lta2 := lt_of_heap Ka2.out
  have nwa : ¬ w.heap.size = w2.heap.size := by omega
  have nva : ¬ w2.heap.size = w.heap.size := by omega
  clear hb2 HQ
  have HC := one_cells (⟨by
    intro z hz
    simp only [List.mem_cons, List.not_mem_nil, or_false] at hz
    subst hz
    exact Ka2.out, KB2.out⟩ : Keep w w2 [(w.heap.size, tyO n l m)])
  go_upto_region 5 with (fail)
  go_cut [45] (fun t wx => t = .bool false ∧ Keep w wx [(w.heap.size, tyO n l m)])
  case first =>
    go_region_held3 (fun w' => w'.cell? ⟨w.heap.size, 0, none⟩ = some (.string n) ∧ w'.cell? ⟨w.heap.size, 1, none⟩ = some (.int .i64 l) ∧ w'.cell? ⟨w.heap.size, 2, none⟩ = some (.int .i64 m) ∧ Keep w w' [(w.heap.size, tyO n l m)])
      (first
        | exact one_next (Below.drew (Below.refl _ _)) HC
        | exact one_next (by assumption) (by assumption)
        | exact one_next (by assumption) ⟨by assumption, by assumption, by assumption, by assumption⟩
        | go_keep)
      ((first
        | (go_at_call 11; refine (HR _).out.mono ?_; rintro e w' ⟨rfl, hb⟩)
        | (go_at_call 12; refine (HR2 _).out.mono ?_; rintro e w' ⟨rfl, hb⟩)))
    all_goals
      have HK := (by assumption : _ ∧ _ ∧ _ ∧ Keep w w' [(w.heap.size, tyO n l m)]).2.2.2
      clear HC
      go_wp2_with fail
      go_meet
      exact ⟨rfl, HK⟩
  case rest =>
    obtain ⟨rfl, HK⟩ := hcut
    have Ka3 := Lib.hid (HK.1 (w.heap.size, tyO n l m) (by simp))
    have KB3 := Lib.hid HK.2
    obtain ⟨a0, a1, a2, af0, af1, af2⟩ := ty_cells Ka3.out
    have lta3 := lt_of_heap Ka3.out
    have nwa : ¬ w.heap.size = wc.heap.size := by simp only at lta3; omega
    have nva : ¬ wc.heap.size = w.heap.size := by simp only at lta3; omega
    clear HC HK HR HR2 zz2 nwa nva lta2
    go_wp2_with fail
    refine (HS _).out.mono ?_
    rintro e w4 ⟨rfl, hb4⟩
    have Ka4 := Lib.hid (blk Ka3.out hb4)
    have zz4 := hb4.size
    have KB4 := Lib.hid (chain KB3.out hb4)
    obtain ⟨a0, a1, a2, af0, af1, af2⟩ := ty_cells Ka4.out
    have lta4 := lt_of_heap Ka4.out
    have nwa : ¬ w.heap.size = w4.heap.size := by omega
    have nva : ¬ w4.heap.size = w.heap.size := by omega
    clear hb4 HS
    go_wp2_with fail
    refine (HS2 _).out.mono ?_
    rintro e w5 ⟨rfl, hb5⟩
    have Ka5 := Lib.hid (blkn Ka4.out hb5)
    have Kb5 := Lib.hid (lastn hb5)
    have zz5 := size_lt hb5
    have KB5 := Lib.hid (chain KB4.out (nextn hb5))
    obtain ⟨a0, a1, a2, af0, af1, af2⟩ := ty_cells Ka5.out
    obtain ⟨b0, b1, b2, bf0, bf1, bf2⟩ := ty_cells Kb5.out
    have lta5 := lt_of_heap Ka5.out
    have ltb5 := lt_of_heap Kb5.out
    have nwa : ¬ w.heap.size = w5.heap.size := by omega
    have nva : ¬ w5.heap.size = w.heap.size := by omega
    have neab : ¬ w.heap.size = w4.heap.size := by omega
    have neba : ¬ w4.heap.size = w.heap.size := by omega
    have nwb : ¬ w4.heap.size = w5.heap.size := by omega
    have nvb : ¬ w5.heap.size = w4.heap.size := by omega
    clear hb5 HS2
    go_wp2_with fail
    refine (HI _).out.mono ?_
    rintro e w6 ⟨rfl, hb6⟩
    have Ka6 := Lib.hid (blkn Ka5.out hb6)
    have Kb6 := Lib.hid (blkn Kb5.out hb6)
    have Kc6 := Lib.hid (lastn hb6)
    have zz6 := size_lt hb6
    have KB6 := Lib.hid (chain KB5.out (nextn hb6))
    obtain ⟨a0, a1, a2, af0, af1, af2⟩ := ty_cells Ka6.out
    obtain ⟨b0, b1, b2, bf0, bf1, bf2⟩ := ty_cells Kb6.out
    obtain ⟨c0, c1, c2, cf0, cf1, cf2⟩ := ty_cells Kc6.out
    have lta6 := lt_of_heap Ka6.out
    have ltb6 := lt_of_heap Kb6.out
    have ltc6 := lt_of_heap Kc6.out
    have nwa : ¬ w.heap.size = w6.heap.size := by omega
    have nva : ¬ w6.heap.size = w.heap.size := by omega
    have neac : ¬ w.heap.size = w5.heap.size := by omega
    have neca : ¬ w5.heap.size = w.heap.size := by omega
    have nwb : ¬ w4.heap.size = w6.heap.size := by omega
    have nvb : ¬ w6.heap.size = w4.heap.size := by omega
    have nebc : ¬ w4.heap.size = w5.heap.size := by omega
    have necb : ¬ w5.heap.size = w4.heap.size := by omega
    have nwc : ¬ w5.heap.size = w6.heap.size := by omega
    have nvc : ¬ w6.heap.size = w5.heap.size := by omega
    clear hb6 HI
    go_wp2_with fail
    refine (HI2 _).out.mono ?_
    rintro e w7 ⟨rfl, hb7⟩
    have zz7 : w6.heap.size ≤ w7.heap.size := by have := hb7.size; simpa using this
    have hc7 := sto hb7
    have Ka7 := Lib.hid ((hc7.block (w.heap.size) lta6).trans (set_other (set_other (set_other Ka6.out neba) neba) neba))
    have Kb7 := Lib.hid ((hc7.block (w4.heap.size) ltb6).trans (ty_set Kb6.out))
    have Kc7 := Lib.hid ((hc7.block (w5.heap.size) ltc6).trans (set_other (set_other (set_other Kc6.out nebc) nebc) nebc))
    have KB7 := Lib.hid ((set3 KB6.out (by omega : w.heap.size ≤ w4.heap.size) _ _ _).trans (hc7.mono (by omega : w.heap.size ≤ w6.heap.size)))
    obtain ⟨a0, a1, a2, af0, af1, af2⟩ := ty_cells Ka7.out
    obtain ⟨b0, b1, b2, bf0, bf1, bf2⟩ := ty_cells Kb7.out
    obtain ⟨c0, c1, c2, cf0, cf1, cf2⟩ := ty_cells Kc7.out
    have lta7 := lt_of_heap Ka7.out
    have ltb7 := lt_of_heap Kb7.out
    have ltc7 := lt_of_heap Kc7.out
    have nwa : ¬ w.heap.size = w7.heap.size := by omega
    have nva : ¬ w7.heap.size = w.heap.size := by omega
    have nwb : ¬ w4.heap.size = w7.heap.size := by omega
    have nvb : ¬ w7.heap.size = w4.heap.size := by omega
    have nwc : ¬ w5.heap.size = w7.heap.size := by omega
    have nvc : ¬ w7.heap.size = w5.heap.size := by omega
    clear hb7 hc7 HI2
    go_wp2_with fail
    refine (HL _).out.mono ?_
    rintro e w8 ⟨rfl, hb8⟩
    have zz8 : w7.heap.size ≤ w8.heap.size := by have := hb8.size; simpa using this
    have hc8 := sto hb8
    have Ka8 := Lib.hid ((hc8.block (w.heap.size) lta7).trans (set_other (set_other (set_other Ka7.out neca) neca) neca))
    have Kb8 := Lib.hid ((hc8.block (w4.heap.size) ltb7).trans (set_other (set_other (set_other Kb7.out necb) necb) necb))
    have Kc8 := Lib.hid ((hc8.block (w5.heap.size) ltc7).trans (ty_set Kc7.out))
    have KB8 := Lib.hid ((set3 KB7.out (by omega : w.heap.size ≤ w5.heap.size) _ _ _).trans (hc8.mono (by omega : w.heap.size ≤ w7.heap.size)))
    obtain ⟨a0, a1, a2, af0, af1, af2⟩ := ty_cells Ka8.out
    obtain ⟨b0, b1, b2, bf0, bf1, bf2⟩ := ty_cells Kb8.out
    obtain ⟨c0, c1, c2, cf0, cf1, cf2⟩ := ty_cells Kc8.out
    have lta8 := lt_of_heap Ka8.out
    have ltb8 := lt_of_heap Kb8.out
    have ltc8 := lt_of_heap Kc8.out
    have nwa : ¬ w.heap.size = w8.heap.size := by omega
    have nva : ¬ w8.heap.size = w.heap.size := by omega
    have nwb : ¬ w4.heap.size = w8.heap.size := by omega
    have nvb : ¬ w8.heap.size = w4.heap.size := by omega
    have nwc : ¬ w5.heap.size = w8.heap.size := by omega
    have nvc : ¬ w8.heap.size = w5.heap.size := by omega
    clear hb8 hc8 HL
    go_wp2_with fail
    refine (HL2 _).out.mono ?_
    rintro e w9 ⟨rfl, hb9⟩
    have zz9 : w8.heap.size ≤ w9.heap.size := by have := hb9.size; simpa using this
    have hc9 := sto hb9
    have Ka9 := Lib.hid ((hc9.block (w.heap.size) lta8).trans (set_other (set_other (set_other Ka8.out neba) neba) neba))
    have Kb9 := Lib.hid ((hc9.block (w4.heap.size) ltb8).trans (ty_set Kb8.out))
    have Kc9 := Lib.hid ((hc9.block (w5.heap.size) ltc8).trans (set_other (set_other (set_other Kc8.out nebc) nebc) nebc))
    have KB9 := Lib.hid ((set3 KB8.out (by omega : w.heap.size ≤ w4.heap.size) _ _ _).trans (hc9.mono (by omega : w.heap.size ≤ w8.heap.size)))
    obtain ⟨a0, a1, a2, af0, af1, af2⟩ := ty_cells Ka9.out
    obtain ⟨b0, b1, b2, bf0, bf1, bf2⟩ := ty_cells Kb9.out
    obtain ⟨c0, c1, c2, cf0, cf1, cf2⟩ := ty_cells Kc9.out
    have lta9 := lt_of_heap Ka9.out
    have ltb9 := lt_of_heap Kb9.out
    have ltc9 := lt_of_heap Kc9.out
    have nwa : ¬ w.heap.size = w9.heap.size := by omega
    have nva : ¬ w9.heap.size = w.heap.size := by omega
    have nwb : ¬ w4.heap.size = w9.heap.size := by omega
    have nvb : ¬ w9.heap.size = w4.heap.size := by omega
    have nwc : ¬ w5.heap.size = w9.heap.size := by omega
    have nvc : ¬ w9.heap.size = w5.heap.size := by omega
    clear hb9 hc9 HL2
    go_wp2_with fail
    have HC := says_cells (⟨by
      intro z hz
      simp only [List.mem_cons, List.not_mem_nil, or_false] at hz
      rcases hz with rfl | rfl | rfl
      · exact set_other (set_other (set_other Ka9.out neca) neca) neca
      · exact set_other (set_other (set_other Kb9.out necb) necb) necb
      · exact ty_set Kc9.out, set3 KB9.out (by omega) _ _ _⟩ : Keep w (((w9.setCell ⟨w5.heap.size, 0, none⟩ (.string n3)).setCell ⟨w5.heap.size, 1, none⟩ (.int .i64 l3)).setCell ⟨w5.heap.size, 2, none⟩ (.int .i64 m3)) [(w.heap.size, tyO n l m), (w4.heap.size, tyO n3 l3 m3), (w5.heap.size, tyO n3 l3 m3)])
    go_region_held3 (fun w' => w'.cell? ⟨w.heap.size, 0, none⟩ = some (.string n) ∧ w'.cell? ⟨w.heap.size, 1, none⟩ = some (.int .i64 l) ∧ w'.cell? ⟨w.heap.size, 2, none⟩ = some (.int .i64 m) ∧ w'.cell? ⟨w4.heap.size, 0, none⟩ = some (.string n3) ∧ w'.cell? ⟨w4.heap.size, 1, none⟩ = some (.int .i64 l3) ∧ w'.cell? ⟨w4.heap.size, 2, none⟩ = some (.int .i64 m3) ∧ w'.cell? ⟨w5.heap.size, 0, none⟩ = some (.string n3) ∧ w'.cell? ⟨w5.heap.size, 1, none⟩ = some (.int .i64 l3) ∧ w'.cell? ⟨w5.heap.size, 2, none⟩ = some (.int .i64 m3) ∧ Keep w w' [(w.heap.size, tyO n l m), (w4.heap.size, tyO n3 l3 m3), (w5.heap.size, tyO n3 l3 m3)])
      (first
        | exact says_next (Below.drew (Below.refl _ _)) HC
        | exact says_next (by assumption) (by assumption)
        | exact says_next (by assumption) ⟨by assumption, by assumption, by assumption, by assumption, by assumption, by assumption, by assumption, by assumption, by assumption, by assumption⟩
        | go_keep)
      ((first
        | (go_at_call 19; refine (HM _).out.mono ?_; rintro e w' ⟨rfl, hb⟩)
        | (go_at_call 20; refine (HM2 _).out.mono ?_; rintro e w' ⟨rfl, hb⟩)
        | (go_at_call 21; refine (HB _).out.mono ?_; rintro e w' ⟨rfl, hb⟩)
        | (go_at_call 22; refine (HB2 _).out.mono ?_; rintro e w' ⟨rfl, hb⟩)
        | (go_at_call 23; refine (HT _).out.mono ?_; rintro e w' ⟨rfl, hb⟩)
        | (go_at_call 24; refine (HT2 _).out.mono ?_; rintro e w' ⟨rfl, hb⟩)
        | (go_at_call 8; refine (HA _).out.mono ?_; rintro e w' ⟨rfl, hb⟩)))
    all_goals (go_wp2_with fail; go_ret; exact ⟨rfl, (by assumption : _ ∧ _ ∧ _ ∧ _ ∧ _ ∧ _ ∧ _ ∧ _ ∧ _ ∧ Keep w _ _).2.2.2.2.2.2.2.2.2.2⟩)
theorem readV_form (s : List UInt8) : ∃ (n1 : ByteArray) (l1 m1 : Int) (rb : Bool), readV (rdB 5 0 0 s) = .tuple #[.agg #[.string n1, .int .i64 l1, .int .i64 m1], .bool rb] := by
  unfold readV
  split
  · exact ⟨_, _, _, _, rfl⟩
  · exact ⟨_, _, _, _, rfl⟩
theorem LWSays.walk (W : World) (n : ByteArray) (l m : Int) (_ : (Lit.int .i64 l).wf = true) (_ : (Lit.int .i64 m).wf = true) (s : ByteArray) : Calls Try.prog 3 #[.agg #[.string n, .int .i64 l, .int .i64 m], .string s] W fun e w' => e = .returned (.bool true) ∧ Below W.heap.size W w' := by
  by_cases h : 2000 < n.size ∨ 2000 < s.size
  · exact says_big n l m s W h
  · have hn : n.size ≤ 2000 := by omega
    have hs : s.size ≤ 2000 := by omega
    obtain ⟨n1, l1, m1, rb, hrd⟩ := readV_form s.data.toList
    cases hr : rightT n.data.toList l m
    · exact says_no n s l m W hn hs ⟨#[]⟩ false rb false n1 ⟨#[]⟩ ⟨#[]⟩ l1 m1 0 0 0 0 m m hr (fun w => Lib.hid (print_no n l m w (by omega) hr)) (fun w => Lib.hid (rprint_no n l m w (by omega) hr)) hrd
        (by simp [itemV, hr, noT]) (by simp [listV, hr, noT]) (by simp [mustV, hr]) (by simp [bareV, hr]) (by simp [isB, hr])
    · obtain ⟨hN, h1, h2, h3, h4⟩ := right_true hr
      have HP : ∃ P : ByteArray, (∀ w, Hid (Calls Try.prog 9 #[.agg #[.string n, .int .i64 l, .int .i64 m]] w fun e w' => e = .returned (.tuple #[.string P, .bool true]) ∧ Below w.heap.size w w')) ∧ (∀ w, Hid (Calls Try.prog 10 #[.agg #[.string n, .int .i64 l, .int .i64 m]] w fun e w' => e = .returned (.tuple #[.string P, .bool true]) ∧ Below w.heap.size w w')) := by
        obtain ⟨k, rfl⟩ := Int.eq_ofNat_of_zero_le h1
        obtain ⟨q, rfl⟩ := Int.eq_ofNat_of_zero_le h3
        have hq : q < 2 ^ (k + 1) := by
          have : ((2 ^ (k + 1) : Nat) : Int) = (2 : Int) ^ (k + 1) := by simp
          simp only [Int.toNat_natCast] at h4
          omega
        exact ⟨_, fun w => Lib.hid (print_yes n k q w (by omega) hN (by omega) hq), fun w => Lib.hid (rprint_yes n k q w (by omega) hN (by omega) hq)⟩
      obtain ⟨P, HP, HQ⟩ := HP
      obtain ⟨n2, l2, m2, ib, hit⟩ : ∃ (n2 : ByteArray) (l2 m2 : Int) (ib : Bool), itemV n l m = .tuple #[.agg #[.string n2, .int .i64 l2, .int .i64 m2], .bool ib] := by
        unfold itemV
        split
        · exact ⟨_, _, _, _, rfl⟩
        · exact ⟨_, _, _, _, rfl⟩
      by_cases l4 : l = 4
      · exact says_four n s l m W hn hs P _ rb ib n1 n2 ⟨#[]⟩ l1 m1 l2 m2 0 0 _ _ hr HP HQ hrd hit (by simp [listV, l4, noT]) (by rw [mustV, if_pos hr]) (by rw [bareV, if_pos hr]) rfl
      · exact says_some n s l m W hn hs P _ rb ib n1 n2 n l1 m1 l2 m2 (l + 1) (m * 2) _ _ hr HP HQ hrd hit (by rw [listV, if_pos ⟨hr, l4⟩, yesT]) (by rw [mustV, if_pos hr]) (by rw [bareV, if_pos hr]) rfl
end Go.Proofs.Ytfinboplkjijhaa
