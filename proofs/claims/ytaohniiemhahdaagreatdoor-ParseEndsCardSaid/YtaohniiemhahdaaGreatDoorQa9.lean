/- The walks of value.number and value.enum. -/
import Derived.Test.YtaohniiemhahdaaGreatDoorQa7
import Derived.Test.YtaohniiemhahdaaGreatDoorQa8
import Derived.Deep.RegionHeld3
import Derived.Test.YtaohniiemhahdaaGreatDoorQa0
import Derived.Test.YtaohniiemhahdaaGreatDoorQa1
import Derived.Deep.QuietTactic
import Derived.BigQuiet
import Derived.Deep.Draws
import Derived.Deep.DeepCutAuto
import Derived.Lib.Hide
import Derived.Shelf.Abstract
namespace Go.Proofs.YtaohniiemhahdaaGreatDoor
open Go.RowKit

set_option maxRecDepth 100000 in
theorem vnumber_any (s : ByteArray) (w : World) (hs : s.size ≤ 9000) (hw : Laid5 w) : Calls Tryz.prog 198 #[.string s] w fun e w' => e = .returned (.bool (numB s.data.toList)) ∧ Below w.heap.size w w' := by
  have hN := vnumberf_any s w hs
  by_cases h4 : kindL s.data.toList = 4
  · have hr : Hid (numB s.data.toList = true) := Lib.hid (by unfold numB; rw [h4]; rfl)
    rw [h4] at hN
    have HN := Lib.hid hN
    clear hN h4
    go_enter Tryz.func198, Tryz.ntmps198
    go_wp2_with fail
    refine HN.out.mono ?_
    rintro e w1 ⟨rfl, hb⟩
    have HB := Lib.hid hb
    clear hb
    go_wp2_with fail
    go_ret
    exact ⟨ret_bool hr.out.symm, HB.out⟩
  · by_cases h3 : kindL s.data.toList = 3
    · cases hf : fits64 (intN s.data.toList) with
      | true =>
        have hr : Hid (numB s.data.toList = false) := Lib.hid (by unfold numB; rw [h3, hf]; rfl)
        have HP := fun wx => Lib.hid (parseInt_yes s hs h3 hf wx)
        rw [h3] at hN
        have HN := Lib.hid hN
        clear hN h3 h4 hf
        go_enter Tryz.func198, Tryz.ntmps198
        go_wp2_with fail
        refine HN.out.mono ?_
        rintro e w1 ⟨rfl, hb⟩
        have HB := Lib.hid hb
        clear hb
        go_wp2_with fail
        refine (HP _).out.mono ?_
        rintro e w2 ⟨rfl, hb⟩
        have HB2 := Lib.hid (HB.out.trans (hb.mono HB.out.size))
        clear hb
        go_wp2_with fail
        go_ret
        exact ⟨ret_bool hr.out.symm, HB2.out⟩
      | false =>
        have hr : Hid (numB s.data.toList = true) := Lib.hid (by unfold numB; rw [h3, hf]; rfl)
        have HP := fun wx (hx : Laid5 wx) => Lib.hid (parseInt_no s hs h3 hf wx hx)
        rw [h3] at hN
        have HN := Lib.hid hN
        have HW := Lib.hid hw
        clear hN h3 h4 hf hw
        go_enter Tryz.func198, Tryz.ntmps198
        go_wp2_with fail
        refine HN.out.mono ?_
        rintro e w1 ⟨rfl, hb⟩
        have HB := Lib.hid hb
        clear hb
        go_wp2_with fail
        refine (HP _ (HW.out.below HB.out)).out.mono ?_
        rintro e w2 ⟨⟨z, N, rfl⟩, hb⟩
        have HB2 := Lib.hid (HB.out.trans (hb.mono HB.out.size))
        clear hb
        go_wp2_with fail
        go_ret
        exact ⟨ret_bool hr.out.symm, HB2.out⟩
    · have hr : Hid (numB s.data.toList = false) := Lib.hid (by unfold numB; simp [h3, h4])
      obtain ⟨k, hk⟩ : ∃ k, kindL s.data.toList = k := ⟨_, rfl⟩
      rw [hk] at hN h3 h4
      have g4 : (k == 4) = false := by simpa using h4
      have g3 : (k == 3) = false := by simpa using h3
      have HN := Lib.hid hN
      clear hN h3 h4 hk
      go_enter Tryz.func198, Tryz.ntmps198
      go_wp2_with fail
      refine HN.out.mono ?_
      rintro e w1 ⟨rfl, hb⟩
      have HB := Lib.hid hb
      clear hb
      go_wp2_with fail
      go_ret
      exact ⟨ret_bool hr.out.symm, HB.out⟩
theorem enum_said {s : ByteArray} {b0 b1 b2 b3 : Bool} (h0 : nameB s.data.toList = b0) (h1 : (s.toList == [110, 117, 108, 108]) = b1) (h2 : (s.toList == [116, 114, 117, 101]) = b2) (h3 : (s.toList == [102, 97, 108, 115, 101]) = b3) :
    enumB s.data.toList = (b0 && !b1 && !b2 && !b3) := by
  rw [Lib.toList_data] at h1 h2 h3
  unfold enumB
  rw [h0, ← h1, ← h2, ← h3]
  rfl
set_option maxRecDepth 100000 in
theorem venum_any (s : ByteArray) (w : World) (hs : s.size ≤ 9000) : Calls Tryz.prog 199 #[.string s] w fun e w' => e = .returned (.bool (enumB s.data.toList)) ∧ Below w.heap.size w w' := by
  have hN := fun wx => name_any s wx hs
  obtain ⟨b0, h0⟩ : ∃ b, nameB s.data.toList = b := ⟨_, rfl⟩
  obtain ⟨b1, h1⟩ : ∃ b, (s.toList == [110, 117, 108, 108]) = b := ⟨_, rfl⟩
  obtain ⟨b2, h2⟩ : ∃ b, (s.toList == [116, 114, 117, 101]) = b := ⟨_, rfl⟩
  obtain ⟨b3, h3⟩ : ∃ b, (s.toList == [102, 97, 108, 115, 101]) = b := ⟨_, rfl⟩
  have hr := Lib.hid (enum_said h0 h1 h2 h3)
  rw [h0] at hN
  have HN := fun wx => Lib.hid (hN wx)
  clear hN h0
  cases b0 <;> cases b1 <;> cases b2 <;> cases b3
  all_goals
    go_enter Tryz.func199, Tryz.ntmps199
    go_wp2_with (go_at_call 111; refine (HN _).out.mono ?_; rintro e w1 ⟨rfl, rfl⟩)
    go_ret
    exact ⟨ret_bool (by rw [hr.out]; rfl), Below.refl _ _⟩
end Go.Proofs.YtaohniiemhahdaaGreatDoor
/- The landed reader of values: wordValue, single. -/
namespace Go.Proofs.YtaohniiemhahdaaGreatDoor
open Go.RowKit

/-- A value without parts. -/
def flatV (k n : Int) (s : ByteArray) : Value := .agg #[.int .i64 k, .int .i64 n, .string s, .slice none 0 0, .slice none 0 0]
/-- The value that a word is: its kind, number and text. -/
def wordR (s : ByteArray) : Int × Int × ByteArray :=
  if s.data.toList = nullL then (0, 0, ⟨#[]⟩) else if s.data.toList = trueL then (1, 1, ⟨#[]⟩) else if s.data.toList = falseL then (1, 0, ⟨#[]⟩) else (5, 0, s)
/-- The value that a token is. -/
def singleR (t : Tok) : Option (Int × Int × ByteArray) :=
  if t.1 = 2 then some (wordR t.2)
  else if t.1 = 3 then (if fits64 (intN t.2.data.toList) = true then some (2, intN t.2.data.toList, ⟨#[]⟩) else some (3, 0, t.2))
  else if t.1 = 4 then some (3, 0, t.2) else if t.1 = 5 then some (4, 0, t.2) else none
theorem eq_list {s : ByteArray} {l : List UInt8} {b : Bool} (h : (s.toList == l) = b) : (s.data.toList = l) ↔ b = true := by
  rw [Lib.toList_data] at h
  rw [← h]; simp
set_option maxRecDepth 100000 in
theorem wordV_any (s : ByteArray) (w : World) : Calls Tryz.prog 146 #[.string s] w fun e w' => e = .returned (flatV (wordR s).1 (wordR s).2.1 (wordR s).2.2) ∧ Below w.heap.size w w' := by
  obtain ⟨b1, h1⟩ : ∃ b, (s.toList == [110, 117, 108, 108]) = b := ⟨_, rfl⟩
  obtain ⟨b2, h2⟩ : ∃ b, (s.toList == [116, 114, 117, 101]) = b := ⟨_, rfl⟩
  obtain ⟨b3, h3⟩ : ∃ b, (s.toList == [102, 97, 108, 115, 101]) = b := ⟨_, rfl⟩
  have hw : wordR s = if b1 = true then (0, 0, ⟨#[]⟩) else if b2 = true then (1, 1, ⟨#[]⟩) else if b3 = true then (1, 0, ⟨#[]⟩) else (5, 0, s) := by
    unfold wordR
    simp only [show (s.data.toList = nullL) = (b1 = true) from propext (eq_list h1), show (s.data.toList = trueL) = (b2 = true) from propext (eq_list h2), show (s.data.toList = falseL) = (b3 = true) from propext (eq_list h3)]
  rw [hw]
  clear hw
  cases b1 with
  | true =>
    go_enter Tryz.func146, Tryz.ntmps146
    go_wp2_with fail
    exact ret_v1 rfl rfl rfl (heap_alloc_last _ _) ⟨rfl, (Below.refl _ _).alloc (Nat.le_refl _) _⟩
  | false =>
  cases b2 with
  | true =>
    go_enter Tryz.func146, Tryz.ntmps146
    go_wp2_with fail
    exact ret_v1 rfl rfl rfl (heap_alloc_last _ _) ⟨rfl, (Below.refl _ _).alloc (Nat.le_refl _) _⟩
  | false =>
  cases b3 with
  | true =>
    go_enter Tryz.func146, Tryz.ntmps146
    go_wp2_with fail
    exact ret_v1 rfl rfl rfl (heap_alloc_last _ _) ⟨rfl, (Below.refl _ _).alloc (Nat.le_refl _) _⟩
  | false =>
    go_enter Tryz.func146, Tryz.ntmps146
    go_wp2_with fail
    exact ret_v1 rfl rfl rfl (heap_alloc_last _ _) ⟨rfl, (Below.refl _ _).alloc (Nat.le_refl _) _⟩
/-- The box of a token, and the cell of a result, ahead of a walk. -/
theorem tok_box (w : World) (a b : Value) (o : Obj) : ((w.alloc (.cells #[a, b] 91)).alloc o).heap[w.heap.size]? = some (.cells #[a, b] 91 (0, 0)) ∧ ((w.alloc (.cells #[a, b] 91)).alloc o).heap[w.heap.size + 1]? = some o ∧ Below w.heap.size w ((w.alloc (.cells #[a, b] 91)).alloc o) := by
  refine ⟨(Below.heap_alloc _ _ _ (by simp)).trans (heap_alloc_new _ _), ?_, ((Below.refl _ _).alloc (Nat.le_refl _) _).alloc (by simp) _⟩
  have h2 := heap_alloc_new (w.alloc (.cells #[a, b] 91)) o
  have e : (w.alloc (.cells #[a, b] 91)).heap.size = w.heap.size + 1 := by simp
  rwa [e] at h2
theorem five_low {w w2 : World} {b : Nat} (h : Below w.heap.size w w2) (hb : w.heap.size ≤ b) (x0 x1 x2 x3 x4 : Value) : Below w.heap.size w (((((w2.setCell ⟨b, 0, none⟩ x0).setCell ⟨b, 1, none⟩ x1).setCell ⟨b, 2, none⟩ x2).setCell ⟨b, 3, none⟩ x3).setCell ⟨b, 4, none⟩ x4) :=
  ((((h.setCell hb _).setCell hb _).setCell hb _).setCell hb _).setCell hb _
set_option maxRecDepth 100000 in
set_option maxHeartbeats 4000000 in
theorem single_any (t : Tok) (w : World) (hs : t.2.size ≤ 9000) (hk : t.1 = 3 → kindL t.2.data.toList = 3) (hw : Laid5 w) : Calls Tryz.prog 87 #[.agg #[.int .i64 t.1, .string t.2]] w fun e w' => match singleR t with
    | some (k, n, s) => e = .returned (flatV k n s) ∧ Below w.heap.size w w'
    | none => e = PanicE 2 ∧ Below w.heap.size w w' := by
  obtain ⟨tk, s⟩ := t
  simp only at hs hk ⊢
  obtain ⟨y0, y1, yb⟩ := tok_box w (.int .i64 tk) (.string s) (.cells #[.int .i64 0, .int .i64 0, .string ⟨#[]⟩, .slice none 0 0, .slice none 0 0] 35)
  have Y := Lib.hid (And.intro y0 (And.intro y1 yb))
  have hsz : Hid (((w.alloc (.cells #[.int .i64 tk, .string s] 91)).alloc (.cells #[.int .i64 0, .int .i64 0, .string ⟨#[]⟩, .slice none 0 0, .slice none 0 0] 35)).heap.size = w.heap.size + 2) := Lib.hid (by simp)
  clear y0 y1 yb
  by_cases h2 : tk = 2
  · subst h2
    have hr : singleR (2, s) = some (wordR s) := by unfold singleR; rw [if_pos rfl]
    rw [hr]
    have HW := fun wx => Lib.hid (wordV_any s wx)
    obtain ⟨⟨k, n, x⟩, hx⟩ : ∃ p, wordR s = p := ⟨_, rfl⟩
    rw [hx] at HW ⊢
    show Calls _ _ _ _ fun e w' => e = .returned (flatV k n x) ∧ Below w.heap.size w w'
    unfold flatV at HW ⊢
    clear hr hx hk
    go_enter Tryz.func87, Tryz.ntmps87
    go_wp2_with fail
    refine (HW _).out.mono ?_
    rintro e w2 ⟨rfl, hb⟩
    have z1 := (hb.block (w.heap.size + 1) (by have := hsz.out; omega)).trans Y.out.2.1
    have Z := Lib.hid (And.intro z1 (Y.out.2.2.trans (hb.mono (by have := hsz.out; omega))))
    obtain ⟨g0, g1, g2, g3, g4, gz⟩ := gfive_cells z1
    have z0' := gz 0
    have z1' := gz 1
    have z2' := gz 2
    have z3' := gz 3
    have z4' := gz 4
    clear hb z1 HW gz
    go_wp2_with fail
    exact ret_v1 rfl rfl rfl (five_set Z.out.1) ⟨rfl, five_low Z.out.2 (Nat.le_succ _) _ _ _ _ _⟩
  · have e2 : (tk == 2) = false := by simpa using h2
    by_cases h3 : tk = 3
    · subst h3
      have hk3 := hk rfl
      cases hf : fits64 (intN s.data.toList) with
      | true =>
        have hr : singleR (3, s) = some (2, intN s.data.toList, ⟨#[]⟩) := by unfold singleR; rw [if_neg (by simp), if_pos rfl, if_pos hf]
        rw [hr]
        have HP := fun wx => Lib.hid (parseInt_yes s hs hk3 hf wx)
        generalize intN s.data.toList = z at *
        have HI := fun wx => Lib.hid (pint_any z wx)
        show Calls _ _ _ _ fun e w' => e = .returned (flatV 2 z ⟨#[]⟩) ∧ Below w.heap.size w w'
        unfold flatV
        clear hr hk hk3 hf h2
        obtain ⟨q0, q1, _, _⟩ := two_box Y.out.1
        go_enter Tryz.func87, Tryz.ntmps87
        go_wp2_with fail
        refine (HP _).out.mono ?_
        rintro e w2 ⟨rfl, hb⟩
        clear q0 q1
        have z0 := (hb.block w.heap.size (by have := hsz.out; omega)).trans Y.out.1
        have z1 := (hb.block (w.heap.size + 1) (by have := hsz.out; omega)).trans Y.out.2.1
        have Z := Lib.hid (And.intro z1 (Y.out.2.2.trans (hb.mono (by have := hsz.out; omega))))
        have hlt2 : w.heap.size + 2 ≤ w2.heap.size := by have := hb.size; have := hsz.out; omega
        obtain ⟨q0, q1, _, _⟩ := two_box z0
        obtain ⟨g0, g1, g2, g3, g4, gz⟩ := gfive_cells z1
        have z0' := gz 0
        have z1' := gz 1
        have z2' := gz 2
        have z3' := gz 3
        have z4' := gz 4
        clear hb z0 z1 gz
        go_wp2_with fail
        refine (HI _).out.mono ?_
        rintro e w3 ⟨rfl, hb3⟩
        have z1 := (hb3.block (w.heap.size + 1) (by omega)).trans Z.out.1
        have Z3 := Lib.hid (And.intro z1 (Z.out.2.trans (hb3.mono (by omega))))
        clear q0 q1 g0 g1 g2 g3 g4 z0' z1' z2' z3' z4'
        obtain ⟨g0, g1, g2, g3, g4, gz⟩ := gfive_cells z1
        have z0' := gz 0
        have z1' := gz 1
        have z2' := gz 2
        have z3' := gz 3
        have z4' := gz 4
        clear hb3 z1 gz
        go_wp2_with fail
        exact ret_v1 rfl rfl rfl (five_set Z3.out.1) ⟨rfl, five_low Z3.out.2 (Nat.le_succ _) _ _ _ _ _⟩
      | false =>
        have hr : singleR (3, s) = some (3, 0, s) := by unfold singleR; rw [if_neg (by simp), if_pos rfl, if_neg (by rw [hf]; simp)]
        rw [hr]
        have HP := fun wx (hx : Laid5 wx) => Lib.hid (parseInt_no s hs hk3 hf wx hx)
        have HW := Lib.hid (hw.below Y.out.2.2)
        show Calls _ _ _ _ fun e w' => e = .returned (flatV 3 0 s) ∧ Below w.heap.size w w'
        unfold flatV
        clear hr hk hk3 hf h2
        obtain ⟨q0, q1, _, _⟩ := two_box Y.out.1
        go_enter Tryz.func87, Tryz.ntmps87
        go_wp2_with fail
        refine (HP _ HW.out).out.mono ?_
        rintro e w2 ⟨⟨z, N, rfl⟩, hb⟩
        clear q0 q1
        have z0 := (hb.block w.heap.size (by have := hsz.out; omega)).trans Y.out.1
        have z1 := (hb.block (w.heap.size + 1) (by have := hsz.out; omega)).trans Y.out.2.1
        have Z := Lib.hid (And.intro z1 (Y.out.2.2.trans (hb.mono (by have := hsz.out; omega))))
        have hlt2 : w.heap.size + 2 ≤ w2.heap.size := by have := hb.size; have := hsz.out; omega
        obtain ⟨q0, q1, _, _⟩ := two_box z0
        obtain ⟨g0, g1, g2, g3, g4, gz⟩ := gfive_cells z1
        have z0' := gz 0
        have z1' := gz 1
        have z2' := gz 2
        have z3' := gz 3
        have z4' := gz 4
        clear hb z0 z1 gz
        go_wp2_with fail
        exact ret_v1 rfl rfl rfl (five_set Z.out.1) ⟨rfl, five_low Z.out.2 (Nat.le_succ _) _ _ _ _ _⟩
    · have e3 : (tk == 3) = false := by simpa using h3
      by_cases h4 : tk = 4
      · subst h4
        have hr : singleR (4, s) = some (3, 0, s) := by unfold singleR; rw [if_neg (by simp), if_neg (by simp), if_pos rfl]
        rw [hr]
        show Calls _ _ _ _ fun e w' => e = .returned (flatV 3 0 s) ∧ Below w.heap.size w w'
        unfold flatV
        clear hr hk h2 h3
        go_enter Tryz.func87, Tryz.ntmps87
        go_wp2_with fail
        exact ret_v1 rfl rfl rfl (tok_box w _ _ _).2.1 ⟨rfl, (tok_box w _ _ _).2.2⟩
      · have e4 : (tk == 4) = false := by simpa using h4
        by_cases h5 : tk = 5
        · subst h5
          have hr : singleR (5, s) = some (4, 0, s) := by unfold singleR; rw [if_neg (by simp), if_neg (by simp), if_neg (by simp), if_pos rfl]
          rw [hr]
          have HI := fun wx => Lib.hid (ptext_any s wx)
          show Calls _ _ _ _ fun e w' => e = .returned (flatV 4 0 s) ∧ Below w.heap.size w w'
          unfold flatV
          clear hr hk h2 h3 h4
          go_enter Tryz.func87, Tryz.ntmps87
          go_wp2_with fail
          refine (HI _).out.mono ?_
          rintro e w2 ⟨rfl, hb⟩
          have z0 := (hb.block w.heap.size (by have := hsz.out; omega)).trans Y.out.1
          have z1 := (hb.block (w.heap.size + 1) (by have := hsz.out; omega)).trans Y.out.2.1
          have Z := Lib.hid (And.intro z1 (Y.out.2.2.trans (hb.mono (by have := hsz.out; omega))))
          have hlt2 : w.heap.size + 2 ≤ w2.heap.size := by have := hb.size; have := hsz.out; omega
          obtain ⟨q0, q1, _, _⟩ := two_box z0
          obtain ⟨g0, g1, g2, g3, g4, gz⟩ := gfive_cells z1
          have z0' := gz 0
          have z1' := gz 1
          have z2' := gz 2
          have z3' := gz 3
          have z4' := gz 4
          clear hb z0 z1 gz
          go_wp2_with fail
          exact ret_v1 rfl rfl rfl (five_set Z.out.1) ⟨rfl, five_low Z.out.2 (Nat.le_succ _) _ _ _ _ _⟩
        · have e5 : (tk == 5) = false := by simpa using h5
          have hr : singleR (tk, s) = none := by unfold singleR; rw [if_neg h2, if_neg h3, if_neg h4, if_neg h5]
          rw [hr]
          show Calls _ _ _ _ fun e w' => e = PanicE 2 ∧ Below w.heap.size w w'
          clear hr hk h2 h3 h4 h5
          go_enter Tryz.func87, Tryz.ntmps87
          go_wp2_with fail
          exact ⟨rfl, rfl, Y.out.2.2⟩
end Go.Proofs.YtaohniiemhahdaaGreatDoor
/- The texts of types, as plain lists of bytes: which type may be, how it is printed, how the landed reader and the document's own read it. -/
namespace Go.Proofs.YtaohniiemhahdaaGreatDoor

/-- May it be? -/
def rightT (n : List UInt8) (l m : Int) : Bool := nameB n && (decide (0 ≤ l) && (decide (l ≤ 4) && (decide (0 ≤ m) && decide (m < 2 ^ (l.toNat + 1)))))
/-- The mark behind what stands at place j. -/
def bang (j m : Nat) : List UInt8 := if m.testBit j then [33] else []
/-- What is printed of the places from j on, d lists deep. -/
def prD (n : List UInt8) (m : Nat) : Nat → Nat → List UInt8
  | 0, j => n ++ bang j m
  | d + 1, j => 91 :: (prD n m d (j + 1) ++ 93 :: bang j m)
/-- What stands behind the name. -/
def tailD (m : Nat) : Nat → Nat → List UInt8
  | 0, j => bang j m
  | d + 1, j => tailD m d (j + 1) ++ 93 :: bang j m
def printW (n : List UInt8) (l m : Nat) : List UInt8 := prD n m l 0

theorem prD_eq (n : List UInt8) (m : Nat) : ∀ d j, prD n m d j = List.replicate d 91 ++ (n ++ tailD m d j) := by
  intro d
  induction d with
  | zero => intro j; rfl
  | succ d ih => intro j; simp only [prD, tailD, ih (j + 1), List.replicate_succ]; simp
/-- What the places below k have yet to say, of a lists. -/
def sufD (a m : Nat) : Nat → List UInt8
  | 0 => []
  | k + 1 => (if k < a then [93] else []) ++ (bang k m ++ sufD a m k)
/-- The document's own reading of what stands behind the name: k places are left. -/
def parB (a : Nat) : Nat → Nat → List UInt8 → Option Nat
  | 0, m, l => if l.isEmpty then some m else none
  | k + 1, m, l =>
    if k < a ∧ l.head? ≠ some 93 then none
    else
      let r := if k < a then l.tail else l
      if r.head? = some 33 then parB a k (m ||| 2 ^ k) r.tail else parB a k m r
end Go.Proofs.YtaohniiemhahdaaGreatDoor
/- The landed reader of a type's text, as plain lists of bytes: it reads what may be printed, and nothing else; so does the document's own. -/
namespace Go.Proofs.YtaohniiemhahdaaGreatDoor

/-- The landed reader: f places at most, from place j on. -/
def rdB : Nat → Nat → Nat → List UInt8 → List UInt8 × Nat × Nat
  | 0, j, m, _ => ([], j, m)
  | f + 1, j, m, s =>
    let b := Lib.trimSuffix s [33]
    let m' := if Lib.hasSuffix s [33] then m ||| 2 ^ j else m
    let c := Lib.trimPrefix b [91]
    if (Lib.hasPrefix b [91] && Lib.hasSuffix c [93]) = true then rdB f (j + 1) m' (Lib.trimSuffix c [93]) else (b, j, m')

/-- What stands at a place ahead of its mark. -/
def coreD (n : List UInt8) (m : Nat) : Nat → Nat → List UInt8
  | 0, _ => n
  | d + 1, j => 91 :: (prD n m d (j + 1) ++ [93])
/-- s is the text of the type that has this name, these lists, these marks. -/
def IsT (s n : List UInt8) (l m : Nat) : Prop := nameB n = true ∧ l ≤ 4 ∧ m < 2 ^ (l + 1) ∧ s = printW n l m
def partU (b : UInt8) : Bool := letB (b.toNat : Int) || digB (b.toNat : Int)
/-- How many brackets open, and how long the name behind them is. -/
def opens (s : List UInt8) : Nat := (s.takeWhile fun b => b == 91).length
def nameLen (s : List UInt8) : Nat := (s.takeWhile partU).length
end Go.Proofs.YtaohniiemhahdaaGreatDoor
/- The walks of Right, of the landed package and of the document's own answer; a type in the memory. -/
namespace Go.Proofs.YtaohniiemhahdaaGreatDoor
open Go.RowKit

abbrev tyV (n : ByteArray) (l m : Int) : Value := .agg #[.string n, .int .i64 l, .int .i64 m]
abbrev tyO (n : ByteArray) (l m : Int) : Obj := .cells #[.string n, .int .i64 l, .int .i64 m] 39
theorem bdraw {B : Nat} {a w : World} (h : Below B a w) (n : Nat) : Below B a (w.drewN n) := ⟨h.os, h.tape, h.output, h.size, h.block⟩
theorem ret_bb {a b : Bool} (h : a = b) : Ending.returned (.bool a) = .returned (.bool b) := by rw [h]
theorem right_true {n : List UInt8} {l m : Int} (h : rightT n l m = true) : nameB n = true ∧ 0 ≤ l ∧ l ≤ 4 ∧ 0 ≤ m ∧ m < 2 ^ (l.toNat + 1) := by
  simpa [rightT] using h
theorem right_small {n : List UInt8} {l m : Int} (h : rightT n l m = true) : 0 ≤ l ∧ l ≤ 4 ∧ 0 ≤ m ∧ m < 32 := by
  obtain ⟨_, h1, h2, h3, h4⟩ := right_true h
  refine ⟨h1, h2, h3, ?_⟩
  have : l = 0 ∨ l = 1 ∨ l = 2 ∨ l = 3 ∨ l = 4 := by omega
  rcases this with rfl | rfl | rfl | rfl | rfl <;> simp at h4 <;> omega
theorem right_of {n : List UInt8} {l m : Int} (hn : nameB n = true) (h1 : 0 ≤ l) (h2 : l ≤ 4) (h3 : 0 ≤ m) (h4 : m < 2 ^ (l.toNat + 1)) : rightT n l m = true := by
  simp [rightT, hn, h1, h2, h3, h4]
theorem five {l : Int} (h0 : 0 ≤ l) (h4 : l ≤ 4) : l = 0 ∨ l = 1 ∨ l = 2 ∨ l = 3 ∨ l = 4 := by omega

set_option maxRecDepth 100000 in
set_option maxHeartbeats 2000000 in
theorem wright_any (n : ByteArray) (l m : Int) (w : World) (hn : n.size ≤ 9000) : Calls Tryz.prog 53 #[.agg #[.string n, .int .i64 l, .int .i64 m]] w fun e w' => e = .returned (.bool (rightT n.data.toList l m)) ∧ Below w.heap.size w w' := by
  have HN := fun w => Lib.hid (name_any n w hn)
  have HB := Lib.hid (below_new (w := w) (cs := #[.string n, .int .i64 l, .int .i64 m]) (t := 39))
  cases hb : nameB n.data.toList
  · have hr : Hid (rightT n.data.toList l m = false) := Lib.hid (by simp [rightT, hb])
    rw [hb] at HN
    clear hb
    go_enter Tryz.func53, Tryz.ntmps53
    go_wp2
    go_quiet (exact (HN _).out.mono fun _ _ h => ⟨h.1, _, h.2.symm⟩)
    go_wp2
    go_ret
    exact ⟨ret_bb hr.out.symm, bdraw HB.out _⟩
  · rw [hb] at HN
    have hb' := Lib.hid hb
    clear hb
    by_cases h1 : 0 ≤ l
    · by_cases h2 : l ≤ 4
      · by_cases h3 : 0 ≤ m
        · have t1 : decide ((0 : Int) ≤ m) = true := by simpa using h3
          rcases five h1 h2 with rfl | rfl | rfl | rfl | rfl
          · by_cases h4 : m < 2
            · have hr : Hid (rightT n.data.toList 0 m = true) := Lib.hid (right_of hb'.out (by omega) (by omega) h3 (by simpa using h4))
              have t2 : decide (m < 2) = true := by simpa using h4
              go_enter Tryz.func53, Tryz.ntmps53
              go_wp2
              go_quiet (exact (HN _).out.mono fun _ _ h => ⟨h.1, _, h.2.symm⟩)
              go_wp2
              go_ret
              exact ⟨ret_bb hr.out.symm, bdraw HB.out _⟩
            · have hr : Hid (rightT n.data.toList 0 m = false) := Lib.hid (by simp [rightT]; intro _ _; simp at h4; omega)
              have t2 : decide (m < 2) = false := by simpa using h4
              go_enter Tryz.func53, Tryz.ntmps53
              go_wp2
              go_quiet (exact (HN _).out.mono fun _ _ h => ⟨h.1, _, h.2.symm⟩)
              go_wp2
              go_ret
              exact ⟨ret_bb hr.out.symm, bdraw HB.out _⟩
          · by_cases h4 : m < 4
            · have hr : Hid (rightT n.data.toList 1 m = true) := Lib.hid (right_of hb'.out (by omega) (by omega) h3 (by simpa using h4))
              have t2 : decide (m < 4) = true := by simpa using h4
              go_enter Tryz.func53, Tryz.ntmps53
              go_wp2
              go_quiet (exact (HN _).out.mono fun _ _ h => ⟨h.1, _, h.2.symm⟩)
              go_wp2
              go_ret
              exact ⟨ret_bb hr.out.symm, bdraw HB.out _⟩
            · have hr : Hid (rightT n.data.toList 1 m = false) := Lib.hid (by simp [rightT]; intro _ _; simp at h4; omega)
              have t2 : decide (m < 4) = false := by simpa using h4
              go_enter Tryz.func53, Tryz.ntmps53
              go_wp2
              go_quiet (exact (HN _).out.mono fun _ _ h => ⟨h.1, _, h.2.symm⟩)
              go_wp2
              go_ret
              exact ⟨ret_bb hr.out.symm, bdraw HB.out _⟩
          · by_cases h4 : m < 8
            · have hr : Hid (rightT n.data.toList 2 m = true) := Lib.hid (right_of hb'.out (by omega) (by omega) h3 (by simpa using h4))
              have t2 : decide (m < 8) = true := by simpa using h4
              go_enter Tryz.func53, Tryz.ntmps53
              go_wp2
              go_quiet (exact (HN _).out.mono fun _ _ h => ⟨h.1, _, h.2.symm⟩)
              go_wp2
              go_ret
              exact ⟨ret_bb hr.out.symm, bdraw HB.out _⟩
            · have hr : Hid (rightT n.data.toList 2 m = false) := Lib.hid (by simp [rightT]; intro _ _; simp at h4; omega)
              have t2 : decide (m < 8) = false := by simpa using h4
              go_enter Tryz.func53, Tryz.ntmps53
              go_wp2
              go_quiet (exact (HN _).out.mono fun _ _ h => ⟨h.1, _, h.2.symm⟩)
              go_wp2
              go_ret
              exact ⟨ret_bb hr.out.symm, bdraw HB.out _⟩
          · by_cases h4 : m < 16
            · have hr : Hid (rightT n.data.toList 3 m = true) := Lib.hid (right_of hb'.out (by omega) (by omega) h3 (by simpa using h4))
              have t2 : decide (m < 16) = true := by simpa using h4
              go_enter Tryz.func53, Tryz.ntmps53
              go_wp2
              go_quiet (exact (HN _).out.mono fun _ _ h => ⟨h.1, _, h.2.symm⟩)
              go_wp2
              go_ret
              exact ⟨ret_bb hr.out.symm, bdraw HB.out _⟩
            · have hr : Hid (rightT n.data.toList 3 m = false) := Lib.hid (by simp [rightT]; intro _ _; simp at h4; omega)
              have t2 : decide (m < 16) = false := by simpa using h4
              go_enter Tryz.func53, Tryz.ntmps53
              go_wp2
              go_quiet (exact (HN _).out.mono fun _ _ h => ⟨h.1, _, h.2.symm⟩)
              go_wp2
              go_ret
              exact ⟨ret_bb hr.out.symm, bdraw HB.out _⟩
          · by_cases h4 : m < 32
            · have hr : Hid (rightT n.data.toList 4 m = true) := Lib.hid (right_of hb'.out (by omega) (by omega) h3 (by simpa using h4))
              have t2 : decide (m < 32) = true := by simpa using h4
              go_enter Tryz.func53, Tryz.ntmps53
              go_wp2
              go_quiet (exact (HN _).out.mono fun _ _ h => ⟨h.1, _, h.2.symm⟩)
              go_wp2
              go_ret
              exact ⟨ret_bb hr.out.symm, bdraw HB.out _⟩
            · have hr : Hid (rightT n.data.toList 4 m = false) := Lib.hid (by simp [rightT]; intro _ _; simp at h4; omega)
              have t2 : decide (m < 32) = false := by simpa using h4
              go_enter Tryz.func53, Tryz.ntmps53
              go_wp2
              go_quiet (exact (HN _).out.mono fun _ _ h => ⟨h.1, _, h.2.symm⟩)
              go_wp2
              go_ret
              exact ⟨ret_bb hr.out.symm, bdraw HB.out _⟩
        · have hr : Hid (rightT n.data.toList l m = false) := Lib.hid (by simp [rightT]; omega)
          have t1 : decide ((0 : Int) ≤ m) = false := by simpa using h3
          go_enter Tryz.func53, Tryz.ntmps53
          go_wp2
          go_quiet (exact (HN _).out.mono fun _ _ h => ⟨h.1, _, h.2.symm⟩)
          go_wp2
          go_ret
          exact ⟨ret_bb hr.out.symm, bdraw HB.out _⟩
      · have hr : Hid (rightT n.data.toList l m = false) := Lib.hid (by simp [rightT]; omega)
        have t1 : decide (l ≤ (4 : Int)) = false := by simpa using h2
        go_enter Tryz.func53, Tryz.ntmps53
        go_wp2
        go_quiet (exact (HN _).out.mono fun _ _ h => ⟨h.1, _, h.2.symm⟩)
        go_wp2
        go_ret
        exact ⟨ret_bb hr.out.symm, bdraw HB.out _⟩
    · have hr : Hid (rightT n.data.toList l m = false) := Lib.hid (by simp [rightT]; omega)
      have t1 : decide ((0 : Int) ≤ l) = false := by simpa using h1
      go_enter Tryz.func53, Tryz.ntmps53
      go_wp2
      go_quiet (exact (HN _).out.mono fun _ _ h => ⟨h.1, _, h.2.symm⟩)
      go_wp2
      go_ret
      exact ⟨ret_bb hr.out.symm, bdraw HB.out _⟩
end Go.Proofs.YtaohniiemhahdaaGreatDoor
/- The walks of the document's own Name and RightType. -/
namespace Go.Proofs.YtaohniiemhahdaaGreatDoor
open Go.RowKit

end Go.Proofs.YtaohniiemhahdaaGreatDoor
