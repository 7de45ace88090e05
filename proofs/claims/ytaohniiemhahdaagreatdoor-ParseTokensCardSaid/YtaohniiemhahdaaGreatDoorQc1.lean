/- The landed reader: skip, need, name, enter, leave. -/
import Derived.Test.YtaohniiemhahdaaGreatDoorQc0
import Derived.Test.YtaohniiemhahdaaGreatDoorRows
import Derived.WalkKit
import Derived.ProofKit
import Derived.Carry
import Derived.Deep.Strs
import Derived.Deep.Slices
import Derived.Lib.Hide
import Derived.Deep.LoopGhost
import Derived.Deep.WholeRow
import Derived.Deep.RegionHeld3
import Derived.Shelf.Abstract
namespace Go.Proofs.YtaohniiemhahdaaGreatDoor
open Go.RowKit

theorem at_tail {k : Int} {s : ByteArray} {ts : List Tok} (h : atB k s ts = true) : ∃ t, ts = t :: ts.tail := by
  cases ts with
  | nil => cases h
  | cons t ts => exact ⟨t, rfl⟩
def skipT (k : Int) (s : ByteArray) (ts : List Tok) : List Tok := if atB k s ts = true then ts.tail else ts
set_option maxRecDepth 100000 in
theorem skip_any (r : Nat) (ts : List Tok) (d : Nat) (k : Int) (s : ByteArray) (w : World) (h : Rd w r ts d) : Calls Tryz.prog 66 #[.pointer (some ⟨r, 0, none⟩), .int .i64 k, .string s] w fun e w' => e = .returned (.bool (atB k s ts)) ∧ Rd w' r (skipT k s ts) d ∧ Moved r w w' := by
  have HA := Lib.hid (at_any r ts d k s w h)
  have H := Lib.hid h
  clear h
  cases hb : atB k s ts with
  | false =>
    rw [hb] at HA
    have hs : Hid (skipT k s ts = ts) := Lib.hid (by unfold skipT; rw [hb]; rfl)
    clear hb
    go_enter Tryz.func66, Tryz.ntmps66
    go_wp2_with fail
    refine HA.out.mono ?_
    rintro e w1 ⟨rfl, rfl⟩
    go_wp2_with fail
    go_ret
    exact ⟨rfl, by rw [hs.out]; exact H.out, Moved.refl _ _⟩
  | true =>
    rw [hb] at HA
    have hs : Hid (skipT k s ts = ts.tail) := Lib.hid (by unfold skipT; rw [hb]; rfl)
    obtain ⟨t, ht⟩ := at_tail hb
    have HT := Lib.hid (take_yes r t ts.tail d w (by rw [← ht]; exact H.out))
    clear hb ht
    go_enter Tryz.func66, Tryz.ntmps66
    go_wp2_with fail
    refine HA.out.mono ?_
    rintro e w1 ⟨rfl, rfl⟩
    go_wp2_with fail
    refine HT.out.mono ?_
    rintro e w2 ⟨rfl, h2, m2⟩
    have H2 := Lib.hid (And.intro h2 m2)
    clear h2 m2
    go_wp2_with fail
    go_ret
    exact ⟨rfl, by rw [hs.out]; exact H2.out.1, H2.out.2⟩
set_option maxRecDepth 100000 in
theorem need_any (r : Nat) (ts : List Tok) (d : Nat) (k : Int) (s : ByteArray) (w : World) (h : Rd w r ts d) : Calls Tryz.prog 134 #[.pointer (some ⟨r, 0, none⟩), .int .i64 k, .string s] w fun e w' => if atB k s ts = true then e = .returned (.tuple #[]) ∧ Rd w' r ts.tail d ∧ Moved r w w' else e = PanicE 2 ∧ Moved r w w' := by
  have HA := Lib.hid (skip_any r ts d k s w h)
  cases hb : atB k s ts with
  | false =>
    rw [hb] at HA
    simp only [Bool.false_eq_true, if_false]
    clear hb h
    go_enter Tryz.func134, Tryz.ntmps134
    go_wp2_with fail
    refine HA.out.mono ?_
    rintro e w1 ⟨rfl, h1, m1⟩
    have M1 := Lib.hid m1
    clear h1 m1
    go_wp2_with fail
    exact ⟨rfl, rfl, M1.out⟩
  | true =>
    have hs : Hid (skipT k s ts = ts.tail) := Lib.hid (by unfold skipT; rw [hb]; rfl)
    rw [hb] at HA
    simp only [if_true]
    clear hb h
    go_enter Tryz.func134, Tryz.ntmps134
    go_wp2_with fail
    refine HA.out.mono ?_
    rintro e w1 ⟨rfl, h1, m1⟩
    rw [hs.out] at h1
    have M1 := Lib.hid (And.intro h1 m1)
    clear h1 m1
    go_wp2_with fail
    go_end0
    exact ⟨rfl, M1.out.1, M1.out.2⟩
/-- A name, or none. -/
def nameR : List Tok → Option (ByteArray × List Tok)
  | [] => none
  | t :: ts => if t.1 = 2 then some (t.2, ts) else none
set_option maxRecDepth 100000 in
theorem pname_any (r : Nat) (ts : List Tok) (d : Nat) (w : World) (h : Rd w r ts d) : Calls Tryz.prog 86 #[.pointer (some ⟨r, 0, none⟩)] w fun e w' => match nameR ts with
    | some (s, ts') => e = .returned (.string s) ∧ Rd w' r ts' d ∧ Moved r w w'
    | none => e = PanicE 2 ∧ Moved r w w' := by
  cases ts with
  | nil =>
    have HT := Lib.hid (take_no r d w h)
    clear h
    show Calls _ _ _ _ fun e w' => e = PanicE 2 ∧ Moved r w w'
    go_enter Tryz.func86, Tryz.ntmps86
    go_wp2_with fail
    refine HT.out.mono ?_
    rintro e w1 ⟨rfl, m1⟩
    exact ⟨rfl, rfl, m1⟩
  | cons t ts =>
    obtain ⟨k, s⟩ := t
    have HT := Lib.hid (take_yes r (k, s) ts d w h)
    clear h
    by_cases hk : k = 2
    · subst hk
      show Calls _ _ _ _ fun e w' => e = .returned (.string s) ∧ Rd w' r ts d ∧ Moved r w w'
      go_enter Tryz.func86, Tryz.ntmps86
      go_wp2_with fail
      refine HT.out.mono ?_
      rintro e w1 ⟨rfl, h1, m1⟩
      have H1 := Lib.hid (And.intro h1 m1)
      clear h1 m1
      go_wp2_with fail
      go_ret
      exact ⟨rfl, H1.out.1.below ((Below.refl _ _).alloc (Nat.le_refl _) _), H1.out.2.trans (Moved.of_below ((Below.refl _ _).alloc (Nat.le_refl _) _))⟩
    · have hr : nameR ((k, s) :: ts) = none := by show (if k = 2 then some (s, ts) else none) = none; rw [if_neg hk]
      rw [hr]
      have hk' : (k != 2) = true := by simpa using hk
      clear hk hr
      go_enter Tryz.func86, Tryz.ntmps86
      go_wp2_with fail
      refine HT.out.mono ?_
      rintro e w1 ⟨rfl, h1, m1⟩
      have H1 := Lib.hid (And.intro h1 m1)
      clear h1 m1
      go_wp2_with fail
      exact ⟨rfl, rfl, H1.out.2.trans (Moved.of_below ((Below.refl _ _).alloc (Nat.le_refl _) _))⟩
theorem Rd.deep {w : World} {r : Nat} {ts : List Tok} {d d' : Nat} (h : Rd w r ts d) {z : Int} (hz : z = (d' : Int)) : Rd (w.setCell ⟨r, 1, none⟩ (.int .i64 z)) r ts d' ∧ Moved r w (w.setCell ⟨r, 1, none⟩ (.int .i64 z)) := by
  subst hz
  have hl := h.lt
  obtain ⟨A, c, h0, h1, h2, h3⟩ := h
  exact ⟨⟨A, c, heap_setCell_same _ r 1 _ _ _ h0, h1, h2, h3.moved Moved.set hl⟩, Moved.set⟩
set_option maxRecDepth 100000 in
theorem leave_any (r : Nat) (ts : List Tok) (d : Nat) (w : World) (hd : d ≤ 1000) (h : Rd w r ts (d + 1)) : Calls Tryz.prog 129 #[.pointer (some ⟨r, 0, none⟩)] w fun e w' => e = .returned (.tuple #[]) ∧ Rd w' r ts d ∧ Moved r w w' := by
  have H := Lib.hid h
  obtain ⟨A, c, h0, h1, h2, h3⟩ := h
  obtain ⟨c0, c1, z0, z1⟩ := two_box h0
  have hz : ((d + 1 : Nat) : Int) - 1 = (d : Int) := by omega
  obtain ⟨D, hD⟩ : ∃ D, d + 1 = D := ⟨_, rfl⟩
  rw [hD] at c1 hz
  have HE := Lib.hid (H.out.deep (d' := d) rfl)
  have hDb : D ≤ 1001 := by omega
  clear h0 h3 hD H
  go_enter Tryz.func129, Tryz.ntmps129
  go_wp2_with fail
  go_end0
  exact ⟨rfl, HE.out.1, HE.out.2⟩
set_option maxRecDepth 100000 in
theorem enter_any (r : Nat) (ts : List Tok) (d : Nat) (s : ByteArray) (w : World) (hd : d ≤ 1000) (h : Rd w r ts d) : Calls Tryz.prog 126 #[.pointer (some ⟨r, 0, none⟩), .string s] w fun e w' =>
    if atB 1 s ts = true then (if d = 16 then e = PanicE 4 ∧ Moved r w w' else e = .returned (.tuple #[]) ∧ Rd w' r ts.tail (d + 1) ∧ Moved r w w') else e = PanicE 2 ∧ Moved r w w' := by
  have HA := Lib.hid (at_any r ts d 1 s w h)
  have HN := Lib.hid (need_any r ts d 1 s w h)
  have H := Lib.hid h
  obtain ⟨A, c, h0, h1, h2, h3⟩ := h
  obtain ⟨c0, c1, z0, z1⟩ := two_box h0
  cases hb : atB 1 s ts with
  | false =>
    rw [hb] at HA HN
    simp only [Bool.false_eq_true, if_false] at HN ⊢
    clear hb h0 h3
    go_enter Tryz.func126, Tryz.ntmps126
    go_wp2_with fail
    refine HA.out.mono ?_
    rintro e w1 ⟨rfl, rfl⟩
    go_wp2_with fail
    refine HN.out.mono ?_
    rintro e w2 ⟨rfl, m2⟩
    exact ⟨rfl, rfl, m2⟩
  | true =>
    rw [hb] at HA HN
    simp only [if_true] at HN ⊢
    clear hb h0 h3
    by_cases h16 : d = 16
    · subst h16
      simp only [if_true]
      go_enter Tryz.func126, Tryz.ntmps126
      go_wp2_with fail
      refine HA.out.mono ?_
      rintro e w1 ⟨rfl, rfl⟩
      go_wp2_with fail
      exact ⟨rfl, rfl, Moved.refl _ _⟩
    · simp only [h16, if_false]
      have h16' : ((d : Int) == 16) = false := by simp; omega
      clear h16
      go_enter Tryz.func126, Tryz.ntmps126
      go_wp2_with fail
      refine HA.out.mono ?_
      rintro e w1 ⟨rfl, rfl⟩
      go_wp2_with fail
      refine HN.out.mono ?_
      rintro e w2 ⟨rfl, r2, m2⟩
      have HE := Lib.hid (r2.deep (z := (d : Int) + 1) (d' := d + 1) (by omega))
      have M2 := Lib.hid m2
      obtain ⟨A2, c2, g0, _, _, _⟩ := r2
      obtain ⟨y0, y1, x0, x1⟩ := two_box g0
      clear g0 m2 c0 c1 z0 z1
      go_wp2_with fail
      go_end0
      exact ⟨rfl, HE.out.1, M2.out.trans HE.out.2⟩
end Go.Proofs.YtaohniiemhahdaaGreatDoor
/- Values as plain trees, how they lie in memory, and a value that comes in, opened. -/
namespace Go.Proofs.YtaohniiemhahdaaGreatDoor
open Go.ChangeShapes Go.WideShapes Go.ChangeAt Go.RowKit

mutual
/-- A value: its kind, its number, its text, its elements, its members. -/
inductive VT where
  | mk (k n : Int) (s : ByteArray) (l : VL) (m : VM)
inductive VL where
  | nil
  | cons (v : VT) (t : VL)
inductive VM where
  | nil
  | cons (name : ByteArray) (v : VT) (t : VM)
end
def VL.len : VL → Nat
  | .nil => 0
  | .cons _ t => t.len + 1
def VM.len : VM → Nat
  | .nil => 0
  | .cons _ _ t => t.len + 1
def VL.get : VL → Nat → Option VT
  | .nil, _ => none
  | .cons v _, 0 => some v
  | .cons _ t, j + 1 => t.get j
def VM.get : VM → Nat → Option (ByteArray × VT)
  | .nil, _ => none
  | .cons nm v _, 0 => some (nm, v)
  | .cons _ _ t, j + 1 => t.get j
theorem VL.get_lt : ∀ {l : VL} {j : Nat}, j < l.len → ∃ v, l.get j = some v
  | .nil, _, h => by simp [VL.len] at h
  | .cons v _, 0, _ => ⟨v, rfl⟩
  | .cons _ t, j + 1, h => VL.get_lt (l := t) (by simp [VL.len] at h; omega)
theorem VM.get_lt : ∀ {l : VM} {j : Nat}, j < l.len → ∃ v, l.get j = some v
  | .nil, _, h => by simp [VM.len] at h
  | .cons nm v _, 0, _ => ⟨(nm, v), rfl⟩
  | .cons _ _ t, j + 1, h => VM.get_lt (l := t) (by simp [VM.len] at h; omega)
/-- Five cells in a row. -/
def Five (w : World) (b o : Nat) (c0 c1 c2 c3 c4 : Value) : Prop := w.cell? ⟨b, o, none⟩ = some c0 ∧ w.cell? ⟨b, o + 1, none⟩ = some c1 ∧ w.cell? ⟨b, o + 2, none⟩ = some c2 ∧ w.cell? ⟨b, o + 3, none⟩ = some c3 ∧ w.cell? ⟨b, o + 4, none⟩ = some c4
theorem Five.below {w w' : World} {B b o : Nat} {c0 c1 c2 c3 c4 : Value} (h : Five w b o c0 c1 c2 c3 c4) (hb : Below B w w') (hlt : b < B) : Five w' b o c0 c1 c2 c3 c4 :=
  ⟨(hb.cell (p := ⟨b, _, none⟩) hlt).trans h.1, (hb.cell (p := ⟨b, _, none⟩) hlt).trans h.2.1, (hb.cell (p := ⟨b, _, none⟩) hlt).trans h.2.2.1, (hb.cell (p := ⟨b, _, none⟩) hlt).trans h.2.2.2.1, (hb.cell (p := ⟨b, _, none⟩) hlt).trans h.2.2.2.2⟩
mutual
/-- These five values are the fields of the tree; all that they reach lies below block B. -/
def VAt (w : World) (B : Nat) : VT → Value → Value → Value → Value → Value → Prop
  | .mk k n s l m, c0, c1, c2, c3, c4 => c0 = .int .i64 k ∧ c1 = .int .i64 n ∧ c2 = .string s ∧ s.size ≤ 9223372036854775807 ∧ (∃ A c, c3 = .slice A l.len c ∧ l.len ≤ 9223372036854775807 ∧ LAt w B l A 0) ∧ ∃ A c, c4 = .slice A m.len c ∧ m.len ≤ 9223372036854775807 ∧ MAt w B m A 0
def LAt (w : World) (B : Nat) : VL → Option Addr → Nat → Prop
  | .nil, _, _ => True
  | .cons v t, A, j => (∃ b o c0 c1 c2 c3 c4, A = some ⟨b, o, none⟩ ∧ b < B ∧ Five w b (o + j * 5) c0 c1 c2 c3 c4 ∧ VAt w B v c0 c1 c2 c3 c4) ∧ LAt w B t A (j + 1)
def MAt (w : World) (B : Nat) : VM → Option Addr → Nat → Prop
  | .nil, _, _ => True
  | .cons nm v t, A, j => (∃ b o c0 c1 c2 c3 c4, A = some ⟨b, o, none⟩ ∧ b < B ∧ w.cell? ⟨b, o + j * 6, none⟩ = some (.string nm) ∧ nm.size ≤ 9223372036854775807 ∧ Five w b (o + j * 6 + 1) c0 c1 c2 c3 c4 ∧ VAt w B v c0 c1 c2 c3 c4) ∧ MAt w B t A (j + 1)
end
mutual
theorem VAt.below {w w' : World} {B : Nat} (hb : Below B w w') : ∀ (v : VT) (c0 c1 c2 c3 c4 : Value), VAt w B v c0 c1 c2 c3 c4 → VAt w' B v c0 c1 c2 c3 c4
  | .mk k n s l m, c0, c1, c2, c3, c4, h => by
    unfold VAt at h ⊢
    obtain ⟨h0, h1, h2, hs, ⟨A, c, h3, g3, h4⟩, A', c', h5, g5, h6⟩ := h
    exact ⟨h0, h1, h2, hs, ⟨A, c, h3, g3, LAt.below hb l A 0 h4⟩, A', c', h5, g5, MAt.below hb m A' 0 h6⟩
theorem LAt.below {w w' : World} {B : Nat} (hb : Below B w w') : ∀ (l : VL) (A : Option Addr) (j : Nat), LAt w B l A j → LAt w' B l A j
  | .nil, _, _, _ => by unfold LAt; trivial
  | .cons v t, A, j, h => by
    unfold LAt at h ⊢
    obtain ⟨⟨b, o, c0, c1, c2, c3, c4, hA, hlt, hf, hv⟩, ht⟩ := h
    exact ⟨⟨b, o, c0, c1, c2, c3, c4, hA, hlt, hf.below hb hlt, VAt.below hb v _ _ _ _ _ hv⟩, LAt.below hb t A (j + 1) ht⟩
theorem MAt.below {w w' : World} {B : Nat} (hb : Below B w w') : ∀ (l : VM) (A : Option Addr) (j : Nat), MAt w B l A j → MAt w' B l A j
  | .nil, _, _, _ => by unfold MAt; trivial
  | .cons nm v t, A, j, h => by
    unfold MAt at h ⊢
    obtain ⟨⟨b, o, c0, c1, c2, c3, c4, hA, hlt, hn, hz, hf, hv⟩, ht⟩ := h
    exact ⟨⟨b, o, c0, c1, c2, c3, c4, hA, hlt, (hb.cell (p := ⟨b, _, none⟩) hlt).trans hn, hz, hf.below hb hlt, VAt.below hb v _ _ _ _ _ hv⟩, MAt.below hb t A (j + 1) ht⟩
end
theorem LAt.at {w : World} {B : Nat} : ∀ {l : VL} {A : Option Addr} {i j : Nat} {v : VT}, LAt w B l A i → l.get j = some v → ∃ b o c0 c1 c2 c3 c4, A = some ⟨b, o, none⟩ ∧ b < B ∧ Five w b (o + (i + j) * 5) c0 c1 c2 c3 c4 ∧ VAt w B v c0 c1 c2 c3 c4
  | .nil, _, _, _, _, _, h => by simp [VL.get] at h
  | .cons u t, A, i, 0, v, h, hg => by
    unfold LAt at h
    have : u = v := by simpa [VL.get] using hg
    subst this
    exact h.1
  | .cons u t, A, i, j + 1, v, h, hg => by
    unfold LAt at h
    have := LAt.at h.2 (j := j) (v := v) hg
    rwa [show i + 1 + j = i + (j + 1) by omega] at this
theorem MAt.at {w : World} {B : Nat} : ∀ {l : VM} {A : Option Addr} {i j : Nat} {nm : ByteArray} {v : VT}, MAt w B l A i → l.get j = some (nm, v) → ∃ b o c0 c1 c2 c3 c4, A = some ⟨b, o, none⟩ ∧ b < B ∧ w.cell? ⟨b, o + (i + j) * 6, none⟩ = some (.string nm) ∧ nm.size ≤ 9223372036854775807 ∧ Five w b (o + (i + j) * 6 + 1) c0 c1 c2 c3 c4 ∧ VAt w B v c0 c1 c2 c3 c4
  | .nil, _, _, _, _, _, _, h => by simp [VM.get] at h
  | .cons u x t, A, i, 0, nm, v, h, hg => by
    unfold MAt at h
    have : u = nm ∧ x = v := by simpa [VM.get] using hg
    obtain ⟨rfl, rfl⟩ := this
    exact h.1
  | .cons u x t, A, i, j + 1, nm, v, h, hg => by
    unfold MAt at h
    have := MAt.at h.2 (j := j) (nm := nm) (v := v) hg
    rwa [show i + 1 + j = i + (j + 1) by omega] at this
theorem add_at {b o i : Nat} : (⟨b, o, none⟩ : Addr).add i = ⟨b, o + i, none⟩ := by unfold Addr.add; split <;> simp_all

end Go.Proofs.YtaohniiemhahdaaGreatDoor
/- The walk of seinekeep.Size: by induction on the tree. -/
namespace Go.Proofs.YtaohniiemhahdaaGreatDoor
open Go.RowKit

mutual
def sizeV : VT → Nat
  | .mk _ _ s l m => 1 + s.size + sizeL l + sizeM m
def sizeL : VL → Nat
  | .nil => 0
  | .cons v t => sizeV v + sizeL t
def sizeM : VM → Nat
  | .nil => 0
  | .cons nm v t => nm.size + sizeV v + sizeM t
end
/-- The first j of them. -/
def preL : VL → Nat → Nat
  | .nil, _ => 0
  | .cons _ _, 0 => 0
  | .cons v t, j + 1 => sizeV v + preL t j
def preM : VM → Nat → Nat
  | .nil, _ => 0
  | .cons _ _ _, 0 => 0
  | .cons nm v t, j + 1 => nm.size + sizeV v + preM t j
theorem sizeL_get : ∀ {l : VL} {j : Nat} {v : VT}, l.get j = some v → sizeV v ≤ sizeL l
  | .nil, _, _, h => by simp [VL.get] at h
  | .cons u t, 0, v, h => by
    have : u = v := by simpa [VL.get] using h
    subst this
    rw [sizeL]; omega
  | .cons u t, j + 1, v, h => by
    have := sizeL_get (l := t) (j := j) (v := v) h
    rw [sizeL]; omega
theorem sizeM_get : ∀ {l : VM} {j : Nat} {nm : ByteArray} {v : VT}, l.get j = some (nm, v) → nm.size + sizeV v ≤ sizeM l
  | .nil, _, _, _, h => by simp [VM.get] at h
  | .cons x u t, 0, nm, v, h => by
    have : x = nm ∧ u = v := by simpa [VM.get] using h
    obtain ⟨rfl, rfl⟩ := this
    rw [sizeM]; omega
  | .cons x u t, j + 1, nm, v, h => by
    have := sizeM_get (l := t) (j := j) (nm := nm) (v := v) h
    rw [sizeM]; omega
/-- A sum as a number of 64 bits. -/
def W64 (n : Nat) : Int := IntKind.i64.wrap (n : Int)
/-- The box of the argument, and nothing that was there has turned. -/
def KV (w : World) (c2 c3 c4 : Value) (w' : World) : Prop := w'.cell? ⟨w.heap.size, 2, none⟩ = some c2 ∧ w'.cell? ⟨w.heap.size, 3, none⟩ = some c3 ∧ w'.cell? ⟨w.heap.size, 4, none⟩ = some c4 ∧ Below w.heap.size w w' ∧ w.heap.size < w'.heap.size
theorem KV.next {w W W' : World} {c2 c3 c4 : Value} (h : KV w c2 c3 c4 W) (hb : Below W.heap.size W W') : KV w c2 c3 c4 W' := by
  obtain ⟨h2, h3, h4, hB, hs⟩ := h
  exact ⟨(hb.cell (p := ⟨_, _, none⟩) hs).trans h2, (hb.cell (p := ⟨_, _, none⟩) hs).trans h3, (hb.cell (p := ⟨_, _, none⟩) hs).trans h4, hB.trans (hb.mono hB.size), Nat.lt_of_lt_of_le hs hb.size⟩
theorem KV.start (w : World) (c0 c1 c2 c3 c4 : Value) (t : TypeId) : KV w c2 c3 c4 (w.alloc (.cells #[c0, c1, c2, c3, c4] t)) := by
  refine ⟨?_, ?_, ?_, (Below.refl _ _).alloc (Nat.le_refl _) _, by simp⟩ <;> (simp only [World.cell?]; rw [show (w.alloc (.cells #[c0, c1, c2, c3, c4] t)).heap[w.heap.size]? = some (.cells #[c0, c1, c2, c3, c4] t) by show (w.heap.push _)[w.heap.size]? = _; simp]; rfl)
/-- And the member at hand. -/
def KM (w : World) (c2 c3 c4 : Value) (b O : Nat) (nm d0 d1 d2 d3 d4 : Value) (w' : World) : Prop := w'.cell? ⟨w.heap.size, 4, none⟩ = some c4 ∧ w'.cell? ⟨b, O, none⟩ = some nm ∧ Five w' b (O + 1) d0 d1 d2 d3 d4 ∧ KV w c2 c3 c4 w'
theorem KM.next {w W W' : World} {c2 c3 c4 : Value} {b O : Nat} {nm d0 d1 d2 d3 d4 : Value} (h : KM w c2 c3 c4 b O nm d0 d1 d2 d3 d4 W) (hbw : b < w.heap.size) (hb : Below W.heap.size W W') : KM w c2 c3 c4 b O nm d0 d1 d2 d3 d4 W' := by
  obtain ⟨h4, hn, hF, hK⟩ := h
  have hl : b < W.heap.size := Nat.lt_trans hbw hK.2.2.2.2
  have hK' := hK.next hb
  exact ⟨hK'.2.2.1, (hb.cell (p := ⟨b, _, none⟩) hl).trans hn, hF.below hb hl, hK'⟩
theorem KM.below {w W : World} {c2 c3 c4 : Value} {b O : Nat} {nm d0 d1 d2 d3 d4 : Value} (h : KM w c2 c3 c4 b O nm d0 d1 d2 d3 d4 W) : Below w.heap.size w W := h.2.2.2.2.2.2.1
theorem KM.written {w W : World} {c2 c3 c4 : Value} {b O : Nat} {nm d0 d1 d2 d3 d4 : Value} (h : KM w c2 c3 c4 b O nm d0 d1 d2 d3 d4 W) : W.cell? ⟨w.heap.size, 4, none⟩ = some c4 ∧ W.cell? ⟨b, O, none⟩ = some nm ∧ W.cell? ⟨b, O + 1, none⟩ = some d0 ∧ W.cell? ⟨b, O + 1 + 1, none⟩ = some d1 ∧ W.cell? ⟨b, O + 1 + 2, none⟩ = some d2 ∧ W.cell? ⟨b, O + 1 + 3, none⟩ = some d3 ∧ W.cell? ⟨b, O + 1 + 4, none⟩ = some d4 ∧ KM w c2 c3 c4 b O nm d0 d1 d2 d3 d4 W :=
  ⟨h.1, h.2.1, h.2.2.1.1, h.2.2.1.2.1, h.2.2.1.2.2.1, h.2.2.1.2.2.2.1, h.2.2.1.2.2.2.2, h⟩
end Go.Proofs.YtaohniiemhahdaaGreatDoor
