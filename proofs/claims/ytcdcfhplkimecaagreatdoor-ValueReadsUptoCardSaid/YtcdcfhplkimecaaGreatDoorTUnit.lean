/- The walks of strconv.ParseUint at four digits to the base 16, and of token's unit. -/
import Derived.Test.YtcdcfhplkimecaaGreatDoorTHex
import Derived.Test.YtcdcfhplkimecaaGreatDoorTNum2
namespace Go.Proofs.YtcdcfhplkimecaaGreatDoor
open Go.RowKit

/-- A world that holds the package's own variables: the table of shapes, and some error behind strconv.ErrSyntax. -/
def Laid3 (w : World) : Prop := TabAt w ∧ ∃ te pe, w.cell? ⟨5, 0, none⟩ = some (.iface te pe)
theorem bdraw {B : Nat} {a w : World} (h : Below B a w) (n : Nat) : Below B a (w.drewN n) := ⟨h.os, h.tape, h.output, h.size, h.block⟩
theorem lt_of_cell {w : World} {b o : Nat} {v : Value} (h : w.cell? ⟨b, o, none⟩ = some v) : b < w.heap.size := by
  rcases Nat.lt_or_ge b w.heap.size with h' | h'
  · exact h'
  · simp [World.cell?, Array.getElem?_eq_none h'] at h
theorem Laid3.below {w w' : World} (h : Laid3 w) (hb : Below w.heap.size w w') : Laid3 w' := by
  obtain ⟨ht, te, pe, hc⟩ := h
  exact ⟨ht.below hb ht.lt, te, pe, (hb.cell (p := ⟨5, 0, none⟩) (lt_of_cell hc)).trans hc⟩
theorem Laid3.alloc {w : World} (h : Laid3 w) (o : Obj) : Laid3 (w.alloc o) := h.below ((Below.refl _ _).alloc (Nat.le_refl _) o)

set_option maxRecDepth 100000 in
theorem parse_yes (t : ByteArray) (h4 : t.size = 4) (v : Int) (hv : pu 0 t.data.toList = some v) (w : World) : Calls Tryz.prog 97 #[.string t, .int .i64 16, .int .i64 16] w fun e w' => e = .returned (.tuple #[.int .u64 v, .nilIface]) ∧ Below w.heap.size w w' := by
  have hP := parse_in t h4 w
  rw [puS, hv] at hP
  have HP := Lib.hid hP
  clear hP
  go_enter Tryz.func97, Tryz.ntmps97
  go_wp2_with fail
  refine HP.out.mono ?_
  rintro e w1 ⟨rfl, hb⟩
  have HB := Lib.hid hb
  clear hb
  go_wp2_with fail
  go_ret2
  exact ⟨rfl, HB.out⟩
set_option maxRecDepth 100000 in
theorem parse_no (t : ByteArray) (h4 : t.size = 4) (hv : pu 0 t.data.toList = none) (w : World) (h3 : Laid3 w) : Calls Tryz.prog 97 #[.string t, .int .i64 16, .int .i64 16] w fun e w' => ∃ N, e = .returned (.tuple #[.int .u64 0, .iface 127 (.pointer (some ⟨N, 0, none⟩))]) ∧ Below w.heap.size w w' := by
  have hP := parse_in t h4 w
  rw [puS, hv] at hP
  have HP := Lib.hid hP
  have H3 := Lib.hid h3
  clear hP h3
  go_enter Tryz.func97, Tryz.ntmps97
  go_wp2_with fail
  refine HP.out.mono ?_
  rintro e w1 ⟨rfl, hb⟩
  obtain ⟨te, pe, hc⟩ := (H3.out.below hb).2
  have HE := Lib.hid (toError_syntax ⟨#[80, 97, 114, 115, 101, 85, 105, 110, 116]⟩ t 16 16 (.iface te pe) w1 (by omega) hc (.inr ⟨te, pe, rfl⟩))
  have HB := Lib.hid hb
  clear hb hc
  go_wp2_with fail
  refine HE.out.mono ?_
  rintro e w2 ⟨N, rfl, hb2⟩
  have HB2 := Lib.hid hb2
  clear hb2
  go_wp2_with fail
  go_ret2
  exact ⟨N, rfl, HB.out.trans (HB2.out.mono HB.out.size)⟩

def unitS (l : List UInt8) : Value := match unitAt l with | some u => .tuple #[.int .i64 u, .bool true] | none => .tuple #[.int .i64 0, .bool false]
theorem unit_pu (a b c d : UInt8) (r : List UInt8) : unitAt (92 :: 117 :: a :: b :: c :: d :: r) = pu 0 [a, b, c, d] := by
  simp only [unitAt, pu]
  cases hexB a <;> cases hexB b <;> cases hexB c <;> cases hexB d <;> simp [hexV]
theorem unit_pre {l : List UInt8} (h : pre [92, 117] l = false) : unitAt l = none := by
  cases hu : unitAt l with
  | none => rfl
  | some u =>
    obtain ⟨t, rfl⟩ := unitAt_head hu
    cases h
theorem unit_short {l : List UInt8} (h : l.length < 6) : unitAt l = none := by
  cases hu : unitAt l with
  | none => rfl
  | some u => have := unitAt_len hu; omega
theorem unit_long {l : List UInt8} (h : pre [92, 117] l = true) (hl : 6 ≤ l.length) : unitAt l = pu 0 ((l.drop 2).take 4) := by
  match l, hl with
  | x :: y :: a :: b :: c :: d :: r, _ =>
    unfold pre at h
    simp only [List.isPrefixOf_cons_cons, Bool.and_eq_true, beq_iff_eq] at h
    obtain ⟨rfl, rfl, _⟩ := h
    rw [unit_pu]
    rfl
theorem cut_no (s q : ByteArray) (w : World) (h : pre q.data.toList s.data.toList = false) : Calls Tryz.prog 96 #[.string s, .string q] w fun e w' => e = .returned (.tuple #[.string s, .bool false]) ∧ w = w' :=
  (cutPrefix_any s q w).mono fun _ _ ⟨he, hw⟩ => ⟨by
    have h' : Lib.hasPrefix s.data.toList q.data.toList = false := h
    rw [he, Lib.trimPrefix, h', if_neg (by simp), mk_of rfl], hw.symm⟩
theorem cut_yes (s q : ByteArray) (w : World) (h : pre q.data.toList s.data.toList = true) : Calls Tryz.prog 96 #[.string s, .string q] w fun e w' => e = .returned (.tuple #[.string (s.extract q.size s.size), .bool true]) ∧ w = w' :=
  (cutPrefix_any s q w).mono fun _ _ ⟨he, hw⟩ => ⟨by
    have h' : Lib.hasPrefix s.data.toList q.data.toList = true := h
    rw [he, Lib.trimPrefix, h', if_pos rfl, len_data, mk_of (ext_data s q.size)], hw.symm⟩

set_option maxRecDepth 100000 in
theorem unit_any (s : ByteArray) (w : World) (hs : s.size ≤ 9000) (h3 : Laid3 w) : Calls Tryz.prog 83 #[.string s] w fun e w' => e = .returned (unitS s.data.toList) ∧ Below w.heap.size w w' := by
  have hl := len_data s
  cases hp : pre [92, 117] s.data.toList
  · have HC := Lib.hid (cut_no s ⟨#[92, 117]⟩ w hp)
    have hr : Hid (unitS s.data.toList = .tuple #[.int .i64 0, .bool false]) := Lib.hid (by rw [unitS, unit_pre hp])
    clear hp hl h3
    go_enter Tryz.func83, Tryz.ntmps83
    go_wp2_with fail
    refine HC.out.mono ?_
    rintro e w1 ⟨rfl, rfl⟩
    go_wp2_with fail
    go_ret2
    exact ⟨by rw [hr.out]; rfl, Below.refl _ _⟩
  · have hC := cut_yes s ⟨#[92, 117]⟩ w hp
    rw [show (⟨#[92, 117]⟩ : ByteArray).size = 2 from rfl] at hC
    have h2 : 2 ≤ s.size := by have := pre_len hp; rw [hl] at this; exact this
    obtain ⟨t, ht⟩ : ∃ t, s.extract 2 s.size = t := ⟨_, rfl⟩
    have htd : t.data.toList = s.data.toList.drop 2 := by rw [← ht, ext_data]
    have hts : t.size = s.size - 2 := by rw [← ht, ext_size]
    rw [ht] at hC
    have HC := Lib.hid hC
    clear hC ht
    by_cases h6 : s.size < 6
    · have hr : Hid (unitS s.data.toList = .tuple #[.int .i64 0, .bool false]) := Lib.hid (by rw [unitS, unit_short (by omega)])
      have e4 : (t.size : Int) < 4 := by omega
      clear hp hl h3 htd
      go_enter Tryz.func83, Tryz.ntmps83
      go_wp2_with fail
      refine HC.out.mono ?_
      rintro e w1 ⟨rfl, rfl⟩
      go_wp2_with fail
      go_ret2
      exact ⟨by rw [hr.out]; rfl, Below.refl _ _⟩
    · have e4 : ¬ (t.size : Int) < 4 := by omega
      have e5 : 4 ≤ t.size := by omega
      have hu := unit_long hp (by omega)
      rw [← htd, ← ext_take t 4] at hu
      have h4s : (t.extract 0 4).size = 4 := by simp; omega
      cases hv : pu 0 (t.extract 0 4).data.toList with
      | none =>
        have hr : Hid (unitS s.data.toList = .tuple #[.int .i64 0, .bool false]) := Lib.hid (by rw [unitS, hu, hv])
        have HP := Lib.hid (parse_no (t.extract 0 4) h4s hv w h3)
        clear hp hl h3 htd hu hv h4s
        go_enter Tryz.func83, Tryz.ntmps83
        go_wp2_with fail
        refine HC.out.mono ?_
        rintro e w1 ⟨rfl, rfl⟩
        go_wp2_with fail
        refine HP.out.mono ?_
        rintro e w1 ⟨N, rfl, hb⟩
        have HB := Lib.hid hb
        clear hb
        go_wp2_with fail
        go_quiet (fail)
        go_wp2_with fail
        go_ret2
        exact ⟨by rw [hr.out]; rfl, bdraw HB.out _⟩
      | some v =>
        have hr : Hid (unitS s.data.toList = .tuple #[.int .i64 v, .bool true]) := Lib.hid (by rw [unitS, hu, hv])
        have HP := Lib.hid (parse_yes (t.extract 0 4) h4s v hv w)
        have hvb := unitAt_bd (hu.trans hv)
        obtain ⟨v0, v1⟩ := hvb
        clear hp hl h3 htd hu hv h4s
        go_enter Tryz.func83, Tryz.ntmps83
        go_wp2_with fail
        refine HC.out.mono ?_
        rintro e w1 ⟨rfl, rfl⟩
        go_wp2_with fail
        refine HP.out.mono ?_
        rintro e w1 ⟨rfl, hb⟩
        have HB := Lib.hid hb
        clear hb
        go_wp2_with fail
        go_quiet (fail)
        go_wp2_with fail
        go_ret2
        exact ⟨by rw [hr.out]; rfl, bdraw HB.out _⟩
theorem unit_at (s : ByteArray) (k : Nat) (w : World) (hs : s.size ≤ 9000) (h3 : Laid3 w) : Calls Tryz.prog 83 #[.string (s.extract k s.size)] w fun e w' => e = .returned (unitS (s.data.toList.drop k)) ∧ Below w.heap.size w w' := by
  have h := unit_any (s.extract k s.size) w (by rw [ext_size]; omega) h3
  rwa [ext_data] at h
end Go.Proofs.YtcdcfhplkimecaaGreatDoor
