/- A slice of tokens in memory, and the walk of SameTokens. -/
import Derived.Test.YtaohniiemhahdaaGreatDoorQc35
import Derived.Deep.RegionHeld3
import Derived.Test.YtaohniiemhahdaaGreatDoorQc39
import Derived.Deep.SlicePairs
import Derived.SizedLaws
import Derived.Test.YtaohniiemhahdaaGreatDoorQc6
import Derived.Test.YtaohniiemhahdaaGreatDoorQc3
import Derived.Laws.AppendOwn
import Derived.Deep.AppendLies
namespace Go.Proofs.YtaohniiemhahdaaGreatDoor
open Go.RowKit

/-- A slice of tokens that lies below block B and reads as ts. -/
def TsAt (w : World) (B : Nat) (A : Option Addr) (n : Nat) (ts : List (Int × ByteArray)) : Prop :=
  ts.length = n ∧ ∀ (j : Nat) t, ts[j]? = some t → ∃ b o, A = some ⟨b, o, none⟩ ∧ b < B ∧ w.cell? ⟨b, o + j * 2, none⟩ = some (.int .i64 t.1) ∧ w.cell? ⟨b, o + j * 2 + 1, none⟩ = some (.string t.2)
theorem TsAt.below {w w' : World} {B : Nat} {A : Option Addr} {n : Nat} {ts : List (Int × ByteArray)} (h : TsAt w B A n ts) (hb : Below B w w') : TsAt w' B A n ts :=
  ⟨h.1, fun j t ht => by
    obtain ⟨b, o, e, hlt, h0, h1⟩ := h.2 j t ht
    exact ⟨b, o, e, hlt, (hb.cell (p := ⟨b, o + j * 2, none⟩) hlt).trans h0, (hb.cell (p := ⟨b, o + j * 2 + 1, none⟩) hlt).trans h1⟩⟩
theorem TsAt.more {w : World} {B B' : Nat} {A : Option Addr} {n : Nat} {ts : List (Int × ByteArray)} (h : TsAt w B A n ts) (hB : B ≤ B') : TsAt w B' A n ts :=
  ⟨h.1, fun j t ht => by
    obtain ⟨b, o, e, hlt, r⟩ := h.2 j t ht
    exact ⟨b, o, e, by omega, r⟩⟩
theorem TsAt.on {w w' : World} {A : Option Addr} {n : Nat} {ts : List (Int × ByteArray)} (h : TsAt w w.heap.size A n ts) (hb : Below w.heap.size w w') : TsAt w' w'.heap.size A n ts := (h.below hb).more hb.size
def packT (ts : List (Int × List UInt8)) : List (Int × ByteArray) := ts.map fun t => (t.1, ⟨t.2.toArray⟩)
def bareT (ts : List (Int × ByteArray)) : List (Int × List UInt8) := ts.map fun t => (t.1, t.2.data.toList)
theorem tokVals_at : ∀ (ts : List (Int × List UInt8)) (j : Nat) t, ts[j]? = some t → (tokVals ts)[2 * j]? = some (.int .i64 t.1) ∧ (tokVals ts)[2 * j + 1]? = some (.string ⟨t.2.toArray⟩) := by
  intro ts
  induction ts with
  | nil => intro j t h; simp at h
  | cons u ts ih =>
    intro j t h
    cases j with
    | zero =>
      simp at h
      subst h
      exact ⟨rfl, rfl⟩
    | succ j =>
      have := ih j t (by simpa using h)
      exact this
theorem ToksAt.ts {w : World} {A : Option Addr} {cap : Nat} {ts : List (Int × List UInt8)} (h : ToksAt w A cap ts) : TsAt w w.heap.size A ts.length (packT ts) := by
  refine ⟨by simp [packT], fun j t ht => ?_⟩
  unfold packT at ht
  rw [List.getElem?_map] at ht
  obtain ⟨u, hu, rfl⟩ := Option.map_eq_some_iff.1 ht
  obtain ⟨v0, v1⟩ := tokVals_at ts j u hu
  obtain ⟨g, rfl, hg, h0⟩ := h.1 _ _ v0
  obtain ⟨g', e, _, h1⟩ := h.1 _ _ v1
  injection e with e
  injection e with e1
  subst e1
  exact ⟨g, 0, rfl, hg, by rw [Nat.zero_add, Nat.mul_comm]; exact h0, by rw [Nat.zero_add, Nat.mul_comm]; exact h1⟩
end Go.Proofs.YtaohniiemhahdaaGreatDoor

/- The walk of token.Right; of seinelaw3.short. -/
namespace Go.Proofs.YtaohniiemhahdaaGreatDoor
open Go.RowKit

theorem markS_agg (x : ByteArray) : ∃ (a : Int) (b : ByteArray), tokS 1 (x.data.toList.take (markN x.data.toList)) (markN x.data.toList) = .tuple #[.agg #[.int .i64 a, .string b], .int .i64 (markN x.data.toList)] := by
  by_cases h : markN x.data.toList = 0
  · exact ⟨_, _, by rw [h]; rfl⟩
  · exact ⟨_, _, by rw [tokS_yes h]⟩
theorem right1 (x : List UInt8) : rightB (1, x) = decide (0 < markN x ∧ markN x = x.length) := rfl
theorem right2 (x : List UInt8) : rightB (2, x) = nameB x := rfl
theorem right3 (x : List UInt8) : rightB (3, x) = decide (kindL x = 3) := rfl
theorem right4 (x : List UInt8) : rightB (4, x) = decide (kindL x = 4) := rfl
theorem right5 (x : List UInt8) : rightB (5, x) = goodB x := rfl
theorem right_no {k : Int} (x : List UInt8) (h1 : k ≠ 1) (h2 : k ≠ 2) (h3 : k ≠ 3) (h4 : k ≠ 4) (h5 : k ≠ 5) : rightB (k, x) = false := by
  unfold rightB
  simp [h1, h2, h3, h4, h5]
theorem kept_box {w w1 : World} {a b : Value} {t : TypeId} (hb : Below (w.alloc (.cells #[a, b] t)).heap.size (w.alloc (.cells #[a, b] t)) w1) : w1.cell? ⟨w.heap.size, 0, none⟩ = some a ∧ w1.cell? ⟨w.heap.size, 1, none⟩ = some b ∧ Below w.heap.size w w1 :=
  ⟨(hb.cell (p := ⟨w.heap.size, 0, none⟩) (by simp)).trans (by rw [World.cell?_alloc_at _ _ _ _ rfl]; rfl), (hb.cell (p := ⟨w.heap.size, 1, none⟩) (by simp)).trans (by rw [World.cell?_alloc_at _ _ _ _ rfl]; rfl), below_new.trans (hb.mono (by simp))⟩
set_option maxRecDepth 100000 in
set_option maxHeartbeats 1000000 in
theorem right_mark (x : ByteArray) (w : World) : Calls Tryz.prog 48 #[.agg #[.int .i64 1, .string x]] w fun e w' => e = .returned (.bool (rightB (1, x.data.toList))) ∧ Below w.heap.size w w' := by
  have HM := Lib.hid (mark_any x (w.alloc (.cells #[.int .i64 1, .string x] 91)))
  obtain ⟨a, b, hab⟩ := markS_agg x
  rw [hab] at HM
  have hr := right1 x.data.toList
  rw [len_data] at hr
  generalize markN x.data.toList = n at *
  clear hab
  by_cases h0 : (n : Int) > 0
  · by_cases he : n = x.size
    · have e1 : ((n : Int) == (x.size : Int)) = true := by simp; omega
      have HR : Hid (rightB (1, x.data.toList) = true) := Lib.hid (by rw [hr]; simp; omega)
      clear hr
      go_enter Tryz.func48, Tryz.ntmps48
      go_wp2_with fail
      refine HM.out.mono ?_
      rintro e w1 ⟨rfl, hb⟩
      obtain ⟨c0, c1, hB⟩ := kept_box hb
      have hlt := hB.size
      have hlt2 := lt_of_cell c0
      have hne : ¬ w.heap.size = w1.heap.size := by omega
      have HB := Lib.hid hB
      clear hb hB
      go_wp2_with fail
      go_ret
      exact ⟨ret_bb HR.out.symm, HB.out.alloc hlt _⟩
    · have e1 : ((n : Int) == (x.size : Int)) = false := by simp; omega
      have HR : Hid (rightB (1, x.data.toList) = false) := Lib.hid (by rw [hr]; simp; omega)
      clear hr
      go_enter Tryz.func48, Tryz.ntmps48
      go_wp2_with fail
      refine HM.out.mono ?_
      rintro e w1 ⟨rfl, hb⟩
      obtain ⟨c0, c1, hB⟩ := kept_box hb
      have hlt := hB.size
      have hlt2 := lt_of_cell c0
      have hne : ¬ w.heap.size = w1.heap.size := by omega
      have HB := Lib.hid hB
      clear hb hB
      go_wp2_with fail
      go_ret
      exact ⟨ret_bb HR.out.symm, HB.out.alloc hlt _⟩
  · have HR : Hid (rightB (1, x.data.toList) = false) := Lib.hid (by rw [hr]; simp; omega)
    clear hr
    go_enter Tryz.func48, Tryz.ntmps48
    go_wp2_with fail
    refine HM.out.mono ?_
    rintro e w1 ⟨rfl, hb⟩
    obtain ⟨c0, c1, hB⟩ := kept_box hb
    have hlt := hB.size
    have hlt2 := lt_of_cell c0
    have hne : ¬ w.heap.size = w1.heap.size := by omega
    have HB := Lib.hid hB
    clear hb hB
    go_wp2_with fail
    go_ret
    exact ⟨ret_bb HR.out.symm, HB.out.alloc hlt _⟩

set_option maxRecDepth 100000 in
set_option maxHeartbeats 1000000 in
theorem right_name (x : ByteArray) (w : World) (hs : x.size ≤ 9000) : Calls Tryz.prog 48 #[.agg #[.int .i64 2, .string x]] w fun e w' => e = .returned (.bool (rightB (2, x.data.toList))) ∧ Below w.heap.size w w' := by
  rw [right2]
  have HM := Lib.hid (name_any x (w.alloc (.cells #[.int .i64 2, .string x] 91)) hs)
  go_enter Tryz.func48, Tryz.ntmps48
  go_wp2_with fail
  refine HM.out.mono ?_
  rintro e w1 ⟨rfl, rfl⟩
  go_wp2_with fail
  go_ret
  exact ⟨rfl, below_new⟩

set_option maxRecDepth 100000 in
set_option maxHeartbeats 1000000 in
theorem right_good (x : ByteArray) (w : World) (hs : x.size ≤ 9000) (h3 : Laid3 w) : Calls Tryz.prog 48 #[.agg #[.int .i64 5, .string x]] w fun e w' => e = .returned (.bool (rightB (5, x.data.toList))) ∧ Below w.heap.size w w' := by
  rw [right5]
  have HM := Lib.hid (good_any x (w.alloc (.cells #[.int .i64 5, .string x] 91)) hs (h3.alloc _).1)
  clear h3
  go_enter Tryz.func48, Tryz.ntmps48
  go_wp2_with fail
  refine HM.out.mono ?_
  rintro e w1 ⟨rfl, hb⟩
  obtain ⟨c0, c1, hB⟩ := kept_box hb
  have HB := Lib.hid hB
  clear hb hB
  go_wp2_with fail
  go_ret
  exact ⟨rfl, HB.out⟩

set_option maxRecDepth 100000 in
set_option maxHeartbeats 1000000 in
theorem right_else (k : Int) (x : ByteArray) (w : World) (k1 : (k == 1) = false) (k2 : (k == 2) = false) (k3 : (k == 3) = false) (k4 : (k == 4) = false) (k5 : (k == 5) = false) : Calls Tryz.prog 48 #[.agg #[.int .i64 k, .string x]] w fun e w' => e = .returned (.bool (rightB (k, x.data.toList))) ∧ Below w.heap.size w w' := by
  rw [right_no _ (by simpa using k1) (by simpa using k2) (by simpa using k3) (by simpa using k4) (by simpa using k5)]
  go_enter Tryz.func48, Tryz.ntmps48
  go_wp2
  go_ret
  exact ⟨rfl, below_new⟩

theorem box_next {w W W' : World} {a b : Value} (hb : Below W.heap.size W W') (h : W.cell? ⟨w.heap.size, 0, none⟩ = some a ∧ W.cell? ⟨w.heap.size, 1, none⟩ = some b ∧ Below w.heap.size w W) : W'.cell? ⟨w.heap.size, 0, none⟩ = some a ∧ W'.cell? ⟨w.heap.size, 1, none⟩ = some b ∧ Below w.heap.size w W' :=
  ⟨(hb.cell (p := ⟨w.heap.size, 0, none⟩) (lt_of_cell h.1)).trans h.1, (hb.cell (p := ⟨w.heap.size, 1, none⟩) (lt_of_cell h.2.1)).trans h.2.1, h.2.2.trans (hb.mono h.2.2.size)⟩
set_option maxRecDepth 100000 in
set_option maxHeartbeats 1000000 in
theorem right_numb (k : Int) (hk : k = 3 ∨ k = 4) (x : ByteArray) (w : World) (hs : x.size ≤ 9000) : Calls Tryz.prog 48 #[.agg #[.int .i64 k, .string x]] w fun e w' => e = .returned (.bool (rightB (k, x.data.toList))) ∧ Below w.heap.size w w' := by
  have HM := Lib.hid (fun w => numberf_any x w hs)
  obtain ⟨z, hz⟩ : ∃ z, kindL x.data.toList = z := ⟨_, rfl⟩
  obtain ⟨t, ht⟩ : ∃ t, (z == k) = t := ⟨_, rfl⟩
  have HR : Hid (rightB (k, x.data.toList) = t) := Lib.hid (by
    rcases hk with rfl | rfl
    · rw [right3, hz, ← ht]; rfl
    · rw [right4, hz, ← ht]; rfl)
  rw [hz] at HM
  clear hz
  have hS0 : (w.alloc (.cells #[.int .i64 k, .string x] 91)).cell? ⟨w.heap.size, 0, none⟩ = some (.int .i64 k) ∧ (w.alloc (.cells #[.int .i64 k, .string x] 91)).cell? ⟨w.heap.size, 1, none⟩ = some (.string x) ∧ Below w.heap.size w (w.alloc (.cells #[.int .i64 k, .string x] 91)) := kept_box (Below.refl _ _)
  have HS0 := Lib.hid hS0
  clear hS0
  rcases hk with rfl | rfl
  · go_enter Tryz.func48, Tryz.ntmps48
    go_wp2_with fail
    have hS0 := HS0.out
    go_region_held3 (fun w' => w'.cell? ⟨w.heap.size, 0, none⟩ = some (.int .i64 3) ∧ w'.cell? ⟨w.heap.size, 1, none⟩ = some (.string x) ∧ Below w.heap.size w w')
      (first
        | exact box_next (Below.drew (Below.refl _ _)) hS0
        | exact box_next (by assumption) (by assumption)
        | exact box_next (by assumption) ⟨by assumption, by assumption, by assumption⟩
        | go_keep)
      ((go_at_call 112; refine (HM.out _).mono ?_; rintro e w' ⟨rfl, hb⟩))
    all_goals (go_wp2_with fail; go_ret; exact ⟨ret_bb HR.out.symm, (And.right (And.right (by assumption : _ ∧ _ ∧ Below w.heap.size w _)))⟩)
  · go_enter Tryz.func48, Tryz.ntmps48
    go_wp2_with fail
    have hS0 := HS0.out
    go_region_held3 (fun w' => w'.cell? ⟨w.heap.size, 0, none⟩ = some (.int .i64 4) ∧ w'.cell? ⟨w.heap.size, 1, none⟩ = some (.string x) ∧ Below w.heap.size w w')
      (first
        | exact box_next (Below.drew (Below.refl _ _)) hS0
        | exact box_next (by assumption) (by assumption)
        | exact box_next (by assumption) ⟨by assumption, by assumption, by assumption⟩
        | go_keep)
      ((go_at_call 112; refine (HM.out _).mono ?_; rintro e w' ⟨rfl, hb⟩))
    all_goals (go_wp2_with fail; go_ret; exact ⟨ret_bb HR.out.symm, (And.right (And.right (by assumption : _ ∧ _ ∧ Below w.heap.size w _)))⟩)

theorem right_any (k : Int) (x : ByteArray) (w : World) (hs : x.size ≤ 9000) (h3 : Laid3 w) : Calls Tryz.prog 48 #[.agg #[.int .i64 k, .string x]] w fun e w' => e = .returned (.bool (rightB (k, x.data.toList))) ∧ Below w.heap.size w w' := by
  by_cases k1 : k = 1
  · subst k1; exact right_mark x w
  by_cases k2 : k = 2
  · subst k2; exact right_name x w hs
  by_cases k34 : k = 3 ∨ k = 4
  · exact right_numb k k34 x w hs
  by_cases k5 : k = 5
  · subst k5; exact right_good x w hs h3
  · exact right_else k x w (by simp; omega) (by simp; omega) (by simp; omega) (by simp; omega) (by simp; omega)
end Go.Proofs.YtaohniiemhahdaaGreatDoor

/- The walk of seinelaw3.short; an argument of tokens, opened. -/
namespace Go.Proofs.YtaohniiemhahdaaGreatDoor
open Go.RowKit

/-- What the law counts: each token's bytes and one. -/
def sumT : List (Int × ByteArray) → Nat
  | [] => 0
  | t :: ts => 1 + t.2.size + sumT ts
theorem sumT_append : ∀ a b : List (Int × ByteArray), sumT (a ++ b) = sumT a + sumT b := by
  intro a b
  induction a with
  | nil => simp [sumT]
  | cons t a ih => simp only [List.cons_append, sumT, ih]; omega
theorem sumT_take (ts : List (Int × ByteArray)) (k : Nat) : sumT (ts.take k) ≤ sumT ts := by
  have := sumT_append (ts.take k) (ts.drop k)
  rw [List.take_append_drop] at this
  omega
theorem sumT_len : ∀ ts : List (Int × ByteArray), ts.length ≤ sumT ts := by
  intro ts
  induction ts with
  | nil => simp
  | cons t ts ih => simp only [List.length_cons, sumT]; omega

end Go.Proofs.YtaohniiemhahdaaGreatDoor
/- The walk of the law's own examples: they hold, and below the call's own blocks nothing has turned. -/
namespace Go.Proofs.YtaohniiemhahdaaGreatDoor
open Go.RowKit

end Go.Proofs.YtaohniiemhahdaaGreatDoor
/- A world that still holds the table and, below the law's own start, all that was there; each callee's contract over such worlds. -/
namespace Go.Proofs.YtaohniiemhahdaaGreatDoor
open Go.RowKit

def Kept (w wx : World) : Prop := TabAt wx ∧ Below w.heap.size w wx
theorem Kept.start {w : World} (ht : TabAt w) : Kept w w := ⟨ht, Below.refl _ _⟩
theorem Kept.next {w wx wy : World} (h : Kept w wx) (hb : Below wx.heap.size wx wy) : Kept w wy := ⟨h.1.below hb h.1.lt, h.2.trans (hb.mono h.2.size)⟩
theorem Kept.alloc {w wx : World} (h : Kept w wx) (o : Obj) : Kept w (wx.alloc o) := h.next ((Below.refl _ _).alloc (Nat.le_refl _) o)
end Go.Proofs.YtaohniiemhahdaaGreatDoor
/- The walk of letters.Units: the units of a text's code points, in new memory. -/
namespace Go.Proofs.YtaohniiemhahdaaGreatDoor
open Go.RowKit

/-- The variable in block b holds a slice of the call's own that reads as us. -/
def OutAt (b : Nat) (us : List Int) (w : World) : Prop :=
  ∃ v, w.heap[b]? = some (.cells #[v] 164 (0, 0)) ∧ w.ownsRow (b + 1) 3 1 v us.length (us.map (Value.int .i64))
theorem OutAt.lt {b : Nat} {us : List Int} {w : World} (h : OutAt b us w) : b < w.heap.size := by
  obtain ⟨v, hb, _⟩ := h
  rcases Nat.lt_or_ge b w.heap.size with h' | h'
  · exact h'
  · rw [Array.getElem?_eq_none h'] at hb; cases hb
theorem grown_of {w w' : World} (h : Below w.heap.size w w') : w.grownBy w' none := ⟨h.os, h.tape, h.output, h.size, fun i hi _ => h.block i hi⟩
theorem own_none (v : Value) : v.ownBlock = none ∨ v.ownBlock ≠ none := Classical.em _
theorem OutAt.below {b : Nat} {us : List Int} {w w' : World} (h : OutAt b us w) (hb : Below w.heap.size w w') : OutAt b us w' := by
  have hl := h.lt
  obtain ⟨v, h1, h2⟩ := h
  exact ⟨v, (hb.block b hl).trans h1, h2.kept (grown_of hb) (own_none _)⟩

theorem heap_alloc_lt (w : World) (o : Obj) (b : Nat) (h : b < w.heap.size) : (w.alloc o).heap[b]? = w.heap[b]? := Below.heap_alloc w o b h
theorem own_form {w : World} {base : Nat} {e : TypeId} {v : Value} {n : Nat} {xs : List Value} (h : w.ownsRow base e 1 v n xs) : ∃ A cap, v = .slice A n cap := by
  rcases h.2 with ⟨hv, hn⟩ | ⟨g, cap, cur, hv, _⟩
  · exact ⟨none, 0, by rw [hv, hn]⟩
  · exact ⟨_, _, hv⟩
theorem box_kept {w w3 : World} {b n : Nat} {o : Obj} {x v : Value} {e T : TypeId} {xs : List Value} (hb : w.heap[b]? = some (.cells #[x] T (0, 0))) (hlt : b < w.heap.size) (hown : w.ownsRow (b + 1) e 1 v n xs) (hg : (w.alloc o).grownBy w3 v.ownBlock) :
    w3.cell? ⟨b, 0, none⟩ = some x ∧ w3.frozen? ⟨b, 0, none⟩ = false ∧ Hid (w3.heap[b]? = some (.cells #[x] T (0, 0))) := by
  have hb3 : w3.heap[b]? = some (.cells #[x] T (0, 0)) := by
    rw [hg.block b (by simp; omega) (fun e => by have := (hown.lt b e.symm).1; omega), heap_alloc_lt w _ b hlt]
    exact hb
  exact ⟨by simp [World.cell?, hb3], by simp [World.frozen?, hb3], Lib.hid hb3⟩
theorem two_new (w : World) (t : TypeId) (x y : Value) : ∀ (j : Nat) u, [x, y][j]? = some u → (w.alloc (.cells #[x, y] t)).cell? ((⟨w.heap.size, 0, none⟩ : Addr).add j) = some u := by
  intro j u hj
  match j, hj with
  | 0, hj => cases hj; show World.cell? _ ⟨w.heap.size, 0, none⟩ = _; rw [World.cell?_alloc_at _ _ _ _ rfl]; rfl
  | 1, hj => cases hj; show World.cell? _ ⟨w.heap.size, 1, none⟩ = _; rw [World.cell?_alloc_at _ _ _ _ rfl]; rfl
  | j + 2, hj => simp at hj

set_option maxRecDepth 100000 in
theorem unitFn (b : Nat) (us : List Int) (c : Int) (w : World) (hO : OutAt b us w) (hlen : us.length ≤ 100000) (h0 : 0 ≤ c) (h1 : c ≤ 1114111) :
    Calls Tryz.prog 196 #[.int .i64 c, .pointer (some ⟨b, 0, none⟩)] w fun e w' => e = .returned (.bool true) ∧ OutAt b (us ++ unitOf c) w' ∧ Below b w w' := by
  have hi9 : (Tryz.prog.info? 3).map (fun i => (i.zero, i.size, i.bytes)) = some (some (.int .i64 0), 1, 8) := by kernel_rfl
  obtain ⟨i0, hi, hx⟩ := Option.map_eq_some_iff.1 hi9
  simp only [Prod.mk.injEq] at hx
  obtain ⟨hz0, hz1, hz2⟩ := hx
  clear hi9
  have hlt := hO.lt
  obtain ⟨v, hb, hown⟩ := hO
  obtain ⟨A, cap, rfl⟩ := own_form hown
  have c0 : w.cell? ⟨b, 0, none⟩ = some (.slice A us.length cap) := by simp [World.cell?, hb]
  by_cases h6 : 65536 ≤ c
  · have g1 : 0 ≤ c - 65536 := by omega
    have g2 : c - 65536 ≤ 1048575 := by omega
    have hu : Hid (unitOf c = [55296 + (c - 65536) / 1024, 56320 + (c - 65536) % 1024]) := Lib.hid (by unfold unitOf; rw [if_neg (by omega)])
    have HB := Lib.hid hb
    clear hb
    go_enter Tryz.func196, Tryz.ntmps196
    go_wp2_with (at_builtin; refine wpList_append_own _ rfl _ _ 164 rfl (b + 1) 3 i0 (.int .i64 0) 1 8 Tryz.underlying164 hi hz0 hz1 hz2 rfl (by decide) _ _ _ rfl (hown.alloc _) ⟨w.heap.size, 0, none⟩ 2 2 [.int .i64 (55296 + (c - 65536) / 1024), .int .i64 (56320 + (c - 65536) % 1024)] rfl rfl (two_new _ _ _ _) (by intro x hx; simp at hx; rcases hx with rfl | rfl <;> rfl) (by unfold maxLen; omega) (by omega) (by simp; omega) ?_; intro v' w3 hown' hgrow _; obtain ⟨A', cap', rfl⟩ := own_form hown'; obtain ⟨c3, f3, HB3⟩ := box_kept HB.out hlt hown hgrow; have HG := Lib.hid hgrow; have HO := Lib.hid hown'; have HW := Lib.hid hown; clear hgrow hown' hown)
    go_ret
    refine ⟨rfl, ⟨.slice A' (us.length + 2) cap', ?_, ?_⟩, ?_⟩
    · simp [World.setCell, Array.getElem?_modify, HB3.out]
    · rw [hu.out, List.map_append, List.length_append]
      exact ownsRow_setCell_below HO.out (a := ⟨b, 0, none⟩) (by simp) _
    · exact ((((Below.refl _ _).alloc (by omega) _).grown HG.out (by simp; omega) (fun k hk => by have := (HW.out.lt k hk).1; omega)).setCell (by simp) _)
  · have hu : Hid (unitOf c = [c]) := Lib.hid (by unfold unitOf; rw [if_pos (by omega)])
    have HB := Lib.hid hb
    clear hb
    go_enter Tryz.func196, Tryz.ntmps196
    go_wp2_with (at_builtin; refine wpList_append_own _ rfl _ _ 164 rfl (b + 1) 3 i0 (.int .i64 0) 1 8 Tryz.underlying164 hi hz0 hz1 hz2 rfl (by decide) _ _ _ rfl (hown.alloc _) ⟨w.heap.size, 0, none⟩ 1 1 [.int .i64 c] rfl rfl (cell_one_new _ _ _) (by intro x hx; simp at hx; rcases hx with rfl; rfl) (by unfold maxLen; omega) (by omega) (by simp; omega) ?_; intro v' w3 hown' hgrow _; obtain ⟨A', cap', rfl⟩ := own_form hown'; obtain ⟨c3, f3, HB3⟩ := box_kept HB.out hlt hown hgrow; have HG := Lib.hid hgrow; have HO := Lib.hid hown'; have HW := Lib.hid hown; clear hgrow hown' hown)
    go_ret
    refine ⟨rfl, ⟨.slice A' (us.length + 1) cap', ?_, ?_⟩, ?_⟩
    · simp [World.setCell, Array.getElem?_modify, HB3.out]
    · rw [hu.out, List.map_append, List.length_append]
      exact ownsRow_setCell_below HO.out (a := ⟨b, 0, none⟩) (by simp) _
    · exact ((((Below.refl _ _).alloc (by omega) _).grown HG.out (by simp; omega) (fun k hk => by have := (HW.out.lt k hk).1; omega)).setCell (by simp) _)

def UnitsTo (l : List UInt8) (k : Nat) (b : Nat) (w : World) : Prop := ∃ cs, cs.length ≤ k ∧ OutAt b (unitsOf cs) w ∧ (codes (l.drop k)).map (fun r => cs ++ r) = codes l
theorem unitsOf_len : ∀ cs : List Int, (unitsOf cs).length ≤ 2 * cs.length := by
  intro cs
  induction cs with
  | nil => simp [unitsOf]
  | cons c cs ih =>
    show (unitOf c ++ unitsOf cs).length ≤ _
    rw [List.length_append, List.length_cons]
    have : (unitOf c).length ≤ 2 := by unfold unitOf; split <;> simp
    omega
theorem unitsOf_snoc (cs : List Int) (c : Int) : unitsOf (cs ++ [c]) = unitsOf cs ++ unitOf c := by simp [unitsOf]

set_option maxRecDepth 100000 in
set_option maxHeartbeats 1000000 in
theorem each_units (s : ByteArray) (b : Nat) (w : World) (hs : s.size ≤ 9000) (ht : TabAt w) (h0 : OutAt b [] w) (hgb : 0 < b) :
    Calls Tryz.prog 98 #[.string s, .func (.func 196) #[] #[.pointer (some ⟨b, 0, none⟩)]] w fun e w' =>
      e = .returned (.bool (goodB s.data.toList)) ∧ Below b w w' ∧ (∃ cs, OutAt b (unitsOf cs) w' ∧ (goodB s.data.toList = true → codes s.data.toList = some cs)) := by
  have HT := Lib.hid ht
  clear ht
  have he := enters_of Tryz.func196 (by kernel_rfl) rfl
  have hlen : s.data.toList.length = s.size := Array.length_toList
  have HL := Lib.hid hlen
  clear hlen
  go_enter Tryz.func98, Tryz.ntmps98
  go_wp2
  go_loopg [5] s.size (fun g i wx => ∃ k : Nat, k + g = s.size ∧ i = .int .i64 k ∧ Below b w wx ∧ Aside (UnitsTo s.data.toList k b wx))
  case atStart => exact ⟨0, by omega, rfl, Below.refl _ _, Aside.intro ⟨[], by simp, h0, by simp⟩⟩
  case round =>
    obtain ⟨k, hk, rfl, hb, H⟩ := hrel
    cases gk with
    | zero =>
      obtain rfl : k = s.size := by omega
      obtain ⟨cs, hcl, hO, hE⟩ := H.out
      have hc : codes s.data.toList = some cs := by rw [← hE, List.drop_eq_nil_of_le (by rw [HL.out]; omega)]; simp [codes_nil]
      have h2 : Hid (goodB s.data.toList = true) := Lib.hid (by rw [goodB_iff, hc]; rfl)
      have hX := Lib.hid (⟨cs, hO, fun _ => hc⟩ : ∃ cs, OutAt b (unitsOf cs) wr ∧ (goodB s.data.toList = true → codes s.data.toList = some cs))
      clear H hO hE hc
      go_wp2
      go_ret
      exact ⟨ret_bool h2.out.symm, hb, hX.out⟩
    | succ g =>
      have hlt : k < s.size := by omega
      have hlt' : (k : Int) < (s.size : Int) := by omega
      have hne : Hid (s.data.toList.drop k ≠ []) := Lib.hid (fun e => by have := congrArg List.length e; rw [List.length_drop, HL.out] at this; simp at this; omega)
      have hdl : Hid ((s.data.toList.drop k).length = s.size - k) := Lib.hid (by rw [List.length_drop, HL.out])
      have hbd := dec_bd (s.data.toList.drop k)
      have hcode := code_in s k wr hs hlt (HT.out.below hb hgb)
      have hst := Lib.hid (codes_step (l := s.data.toList.drop k) hne.out)
      have hbad := Lib.hid (codes_bad (l := s.data.toList.drop k) hne.out)
      generalize dec (s.data.toList.drop k) = d at *
      obtain ⟨c, n⟩ := d
      simp only at hbd hcode hst hbad
      obtain ⟨b1, b2, b3, b4, b5, b6⟩ := hbd
      rw [hdl.out] at b3
      have HC := Lib.hid hcode
      clear hcode b6
      by_cases hn : n = 0
      · obtain ⟨cs, hcl, hO, hE⟩ := H.out
        have hc : codes s.data.toList = none := by rw [← hE, hbad.out hn]; rfl
        have h2 : Hid (goodB s.data.toList = false) := Lib.hid (by rw [goodB_iff, hc]; rfl)
        have HO := Lib.hid hO
        have z0 : (n == 0) = true := by simp [hn]
        clear H hst hbad hn hO hE hc
        go_wp2_with fail
        refine HC.out.mono ?_
        rintro e w1 ⟨rfl, hb1⟩
        go_wp2_with fail
        go_ret
        exact ⟨ret_bool h2.out.symm, hb.trans (hb1.mono (by have := HO.out.lt; omega)), ⟨cs, HO.out.below hb1, fun h => by rw [h2.out] at h; cases h⟩⟩
      · have z0 : (n == 0) = false := by simp [hn]
        obtain ⟨cs, hcl, hO, hE⟩ := H.out
        have hE' : Hid ((codes ((s.data.toList.drop k).drop n.toNat)).map (fun r => (cs ++ [c]) ++ r) = codes s.data.toList) := Lib.hid (by
          rw [← hE, hst.out hn, Option.map_map]
          congr 1
          funext r
          simp)
        have HO := Lib.hid hO
        have hn1 : 1 ≤ n := by omega
        have hul := unitsOf_len cs
        clear H hst hbad hn hO hE
        go_wp2_with fail
        refine HC.out.mono ?_
        rintro e w1 ⟨rfl, hb1⟩
        go_wp2_with fail
        refine (unitFn b (unitsOf cs) c w1 (HO.out.below hb1) (by omega) b4 b5).mono ?_
        rintro e w2 ⟨rfl, hO2, hb2⟩
        have hbl : Below b wr w2 := (hb1.mono (by have := HO.out.lt; omega)).trans hb2
        go_wp2_with fail
        obtain ⟨m, rfl⟩ := Int.eq_ofNat_of_zero_le b1
        go_roundg (s.size - (k + m))
        case measure => omega
        case rel => exact ⟨k + m, by omega, by go_num, hb.trans hbl, Aside.intro ⟨cs ++ [c], by rw [List.length_append]; simp; omega, by rw [unitsOf_snoc]; exact hO2, by rw [← hE'.out, List.drop_drop]; rfl⟩⟩

/-- The units of a text; none, if it is not good. -/
def unitsS (l : List UInt8) : List Int := match codes l with | some cs => unitsOf cs | none => []
end Go.Proofs.YtaohniiemhahdaaGreatDoor
