/- A slice of tokens in memory, and the walk of SameTokens. -/
import Derived.Test.YtcdcfhplkimecaaGreatDoorTAwake
import Derived.Test.YtcdcfhplkimecaaGreatDoorTBacks
import Derived.Deep.RegionHeld3
import Derived.Test.YtcdcfhplkimecaaGreatDoorTFrame
import Derived.Deep.SlicePairs
import Derived.SizedLaws
namespace Go.Proofs.YtcdcfhplkimecaaGreatDoor
open Go.RowKit

/-- A slice of tokens that lies below block B and reads as ts. -/
def TsAt (w : World) (B : Nat) (A : Option Addr) (n : Nat) (ts : List (Int × ByteArray)) : Prop :=
  ts.length = n ∧ ∀ (j : Nat) t, ts[j]? = some t → ∃ b o, A = some ⟨b, o, none⟩ ∧ b < B ∧ w.cell? ⟨b, o + j * 2, none⟩ = some (.int .i64 t.1) ∧ w.cell? ⟨b, o + j * 2 + 1, none⟩ = some (.string t.2)
theorem TsAt.below {w w' : World} {B : Nat} {A : Option Addr} {n : Nat} {ts : List (Int × ByteArray)} (h : TsAt w B A n ts) (hb : Below B w w') : TsAt w' B A n ts :=
  ⟨h.1, fun j t ht => by
    obtain ⟨b, o, e, hlt, h0, h1⟩ := h.2 j t ht
    exact ⟨b, o, e, hlt, (hb.cell (p := ⟨b, o + j * 2, none⟩) hlt).trans h0, (hb.cell (p := ⟨b, o + j * 2 + 1, none⟩) hlt).trans h1⟩⟩
theorem TsAt.more {w : World} {B B' : Nat} {A : Option Addr} {n : Nat} {ts : List (Int × ByteArray)} (h : TsAt w B A n ts) (hB : B ≤ B') : TsAt w B' A n ts :=
  ⟨h.1, fun j t ht => by
    obtain ⟨b, o, e, hlt, r⟩ := h.2 j t ht
    exact ⟨b, o, e, by omega, r⟩⟩
theorem TsAt.on {w w' : World} {A : Option Addr} {n : Nat} {ts : List (Int × ByteArray)} (h : TsAt w w.heap.size A n ts) (hb : Below w.heap.size w w') : TsAt w' w'.heap.size A n ts := (h.below hb).more hb.size
def packT (ts : List (Int × List UInt8)) : List (Int × ByteArray) := ts.map fun t => (t.1, ⟨t.2.toArray⟩)
def bareT (ts : List (Int × ByteArray)) : List (Int × List UInt8) := ts.map fun t => (t.1, t.2.data.toList)
theorem pack_bare (ts : List (Int × ByteArray)) : packT (bareT ts) = ts := by
  unfold packT bareT
  rw [List.map_map]
  conv => rhs; rw [← List.map_id ts]
  congr 1
theorem tokVals_at : ∀ (ts : List (Int × List UInt8)) (j : Nat) t, ts[j]? = some t → (tokVals ts)[2 * j]? = some (.int .i64 t.1) ∧ (tokVals ts)[2 * j + 1]? = some (.string ⟨t.2.toArray⟩) := by
  intro ts
  induction ts with
  | nil => intro j t h; simp at h
  | cons u ts ih =>
    intro j t h
    cases j with
    | zero =>
      simp at h
      subst h
      exact ⟨rfl, rfl⟩
    | succ j =>
      have := ih j t (by simpa using h)
      exact this
theorem ToksAt.ts {w : World} {A : Option Addr} {cap : Nat} {ts : List (Int × List UInt8)} (h : ToksAt w A cap ts) : TsAt w w.heap.size A ts.length (packT ts) := by
  refine ⟨by simp [packT], fun j t ht => ?_⟩
  unfold packT at ht
  rw [List.getElem?_map] at ht
  obtain ⟨u, hu, rfl⟩ := Option.map_eq_some_iff.1 ht
  obtain ⟨v0, v1⟩ := tokVals_at ts j u hu
  obtain ⟨g, rfl, hg, h0⟩ := h.1 _ _ v0
  obtain ⟨g', e, _, h1⟩ := h.1 _ _ v1
  injection e with e
  injection e with e1
  subst e1
  exact ⟨g, 0, rfl, hg, by rw [Nat.zero_add, Nat.mul_comm]; exact h0, by rw [Nat.zero_add, Nat.mul_comm]; exact h1⟩
theorem take_all_eq {α : Type} {xs ys : List α} {n : Nat} (h : xs.take n = ys.take n) (hx : xs.length ≤ n) (hy : ys.length ≤ n) : xs = ys := by
  rwa [List.take_of_length_le hx, List.take_of_length_le hy] at h
theorem take_both3 {α : Type} {xs ys : List α} {k : Nat} {x : α} (h : xs.take k = ys.take k) (ha : xs[k]? = some x) (hb : ys[k]? = some x) : xs.take (k + 1) = ys.take (k + 1) := by
  rw [List.take_add_one, List.take_add_one, h, ha, hb]

set_option maxRecDepth 100000 in
set_option maxHeartbeats 2000000 in
theorem same_yes (A A' : Option Addr) (n c c' : Nat) (ts : List (Int × ByteArray)) (w : World) (h1 : TsAt w w.heap.size A n ts) (h2 : TsAt w w.heap.size A' n ts) (hn : n ≤ 100000) :
    Calls Tryz.prog 9 #[.slice A n c, .slice A' n c'] w fun e w' => e = .returned (.bool true) ∧ Below w.heap.size w w' := by
  have e0 : ((n : Int) != (n : Int)) = false := by simp
  have HL := Lib.hid h1.1
  have H1 := Lib.hid h1
  have H2 := Lib.hid h2
  clear h1 h2
  go_enter Tryz.func9, Tryz.ntmps9
  go_wp2
  go_loopg [5] n (fun g i wx => ∃ k : Nat, k + g = n ∧ i = .int .i64 k ∧ ∃ d, wx = w.drewN d)
  case atStart => exact ⟨0, by omega, rfl, 0, rfl⟩
  case round =>
    obtain ⟨k, hk, rfl, d, rfl⟩ := hrel
    by_cases hlt : k < n
    · have hlt' : (k : Int) < (n : Int) := by omega
      have hk0 : (0 : Int) ≤ (k : Int) := by omega
      obtain ⟨⟨z, x⟩, ht⟩ : ∃ t, ts[k]? = some t := ⟨_, List.getElem?_eq_getElem (by rw [HL.out]; omega)⟩
      obtain ⟨b, o, rfl, hb, c0, c1⟩ := H1.out.2 k _ ht
      obtain ⟨b', o', rfl, hb', d0, d1⟩ := H2.out.2 k _ ht
      simp only at c0 c1 d0 d1
      have x0 : (x.toList == x.toList) = true := by simp
      clear ht
      go_wp2
      go_quiet (fail)
      go_wp2
      go_roundg (gk - 1)
      case measure => omega
      case rel => exact ⟨k + 1, by omega, by go_num, _, rfl⟩
    · obtain rfl : k = n := by omega
      go_wp2
      go_ret
      exact ⟨rfl, bdraw (Below.refl _ _) _⟩
end Go.Proofs.YtcdcfhplkimecaaGreatDoor

/- The walk of token.Right; of seinelaw3.short. -/
namespace Go.Proofs.YtcdcfhplkimecaaGreatDoor
open Go.RowKit

theorem Laid3.of_new {w : World} {cs : Array Value} {t : TypeId} (h : Laid3 w) : Laid3 (w.alloc (.cells cs t)) := h.alloc _
theorem markS_len (x : ByteArray) : ∃ (t : Value), tokS 1 (x.data.toList.take (markN x.data.toList)) (markN x.data.toList) = .tuple #[t, .int .i64 (markN x.data.toList)] := by
  by_cases h : markN x.data.toList = 0
  · exact ⟨_, by rw [h]; rfl⟩
  · exact ⟨_, by rw [tokS_yes h]⟩
theorem markS_agg (x : ByteArray) : ∃ (a : Int) (b : ByteArray), tokS 1 (x.data.toList.take (markN x.data.toList)) (markN x.data.toList) = .tuple #[.agg #[.int .i64 a, .string b], .int .i64 (markN x.data.toList)] := by
  by_cases h : markN x.data.toList = 0
  · exact ⟨_, _, by rw [h]; rfl⟩
  · exact ⟨_, _, by rw [tokS_yes h]⟩
theorem right1 (x : List UInt8) : rightB (1, x) = decide (0 < markN x ∧ markN x = x.length) := rfl
theorem right2 (x : List UInt8) : rightB (2, x) = nameB x := rfl
theorem right3 (x : List UInt8) : rightB (3, x) = decide (kindL x = 3) := rfl
theorem right4 (x : List UInt8) : rightB (4, x) = decide (kindL x = 4) := rfl
theorem right5 (x : List UInt8) : rightB (5, x) = goodB x := rfl
theorem right_no {k : Int} (x : List UInt8) (h1 : k ≠ 1) (h2 : k ≠ 2) (h3 : k ≠ 3) (h4 : k ≠ 4) (h5 : k ≠ 5) : rightB (k, x) = false := by
  unfold rightB
  simp [h1, h2, h3, h4, h5]
theorem cell_of_block {w : World} {g : Nat} {cs : Array Value} {t : TypeId} (hh : w.heap[g]? = some (.cells cs t (0, 0))) (j : Nat) : w.cell? ⟨g, j, none⟩ = cs[j]? := by
  simp [World.cell?, hh]

theorem kept_box {w w1 : World} {a b : Value} {t : TypeId} (hb : Below (w.alloc (.cells #[a, b] t)).heap.size (w.alloc (.cells #[a, b] t)) w1) : w1.cell? ⟨w.heap.size, 0, none⟩ = some a ∧ w1.cell? ⟨w.heap.size, 1, none⟩ = some b ∧ Below w.heap.size w w1 :=
  ⟨(hb.cell (p := ⟨w.heap.size, 0, none⟩) (by simp)).trans (by rw [World.cell?_alloc_at _ _ _ _ rfl]; rfl), (hb.cell (p := ⟨w.heap.size, 1, none⟩) (by simp)).trans (by rw [World.cell?_alloc_at _ _ _ _ rfl]; rfl), below_new.trans (hb.mono (by simp))⟩
theorem ret_bb {a b : Bool} (h : a = b) : Ending.returned (.bool a) = .returned (.bool b) := by rw [h]

set_option maxRecDepth 100000 in
set_option maxHeartbeats 1000000 in
theorem right_mark (x : ByteArray) (w : World) : Calls Tryz.prog 14 #[.agg #[.int .i64 1, .string x]] w fun e w' => e = .returned (.bool (rightB (1, x.data.toList))) ∧ Below w.heap.size w w' := by
  have HM := Lib.hid (mark_any x (w.alloc (.cells #[.int .i64 1, .string x] 41)))
  obtain ⟨a, b, hab⟩ := markS_agg x
  rw [hab] at HM
  have hr := right1 x.data.toList
  rw [len_data] at hr
  generalize markN x.data.toList = n at *
  clear hab
  by_cases h0 : (n : Int) > 0
  · by_cases he : n = x.size
    · have e1 : ((n : Int) == (x.size : Int)) = true := by simp; omega
      have HR : Hid (rightB (1, x.data.toList) = true) := Lib.hid (by rw [hr]; simp; omega)
      clear hr
      go_enter Tryz.func14, Tryz.ntmps14
      go_wp2_with fail
      refine HM.out.mono ?_
      rintro e w1 ⟨rfl, hb⟩
      obtain ⟨c0, c1, hB⟩ := kept_box hb
      have hlt := hB.size
      have hlt2 := lt_of_cell c0
      have hne : ¬ w.heap.size = w1.heap.size := by omega
      have HB := Lib.hid hB
      clear hb hB
      go_wp2_with fail
      go_ret
      exact ⟨ret_bb HR.out.symm, HB.out.alloc hlt _⟩
    · have e1 : ((n : Int) == (x.size : Int)) = false := by simp; omega
      have HR : Hid (rightB (1, x.data.toList) = false) := Lib.hid (by rw [hr]; simp; omega)
      clear hr
      go_enter Tryz.func14, Tryz.ntmps14
      go_wp2_with fail
      refine HM.out.mono ?_
      rintro e w1 ⟨rfl, hb⟩
      obtain ⟨c0, c1, hB⟩ := kept_box hb
      have hlt := hB.size
      have hlt2 := lt_of_cell c0
      have hne : ¬ w.heap.size = w1.heap.size := by omega
      have HB := Lib.hid hB
      clear hb hB
      go_wp2_with fail
      go_ret
      exact ⟨ret_bb HR.out.symm, HB.out.alloc hlt _⟩
  · have HR : Hid (rightB (1, x.data.toList) = false) := Lib.hid (by rw [hr]; simp; omega)
    clear hr
    go_enter Tryz.func14, Tryz.ntmps14
    go_wp2_with fail
    refine HM.out.mono ?_
    rintro e w1 ⟨rfl, hb⟩
    obtain ⟨c0, c1, hB⟩ := kept_box hb
    have hlt := hB.size
    have hlt2 := lt_of_cell c0
    have hne : ¬ w.heap.size = w1.heap.size := by omega
    have HB := Lib.hid hB
    clear hb hB
    go_wp2_with fail
    go_ret
    exact ⟨ret_bb HR.out.symm, HB.out.alloc hlt _⟩

set_option maxRecDepth 100000 in
set_option maxHeartbeats 1000000 in
theorem right_name (x : ByteArray) (w : World) (hs : x.size ≤ 9000) : Calls Tryz.prog 14 #[.agg #[.int .i64 2, .string x]] w fun e w' => e = .returned (.bool (rightB (2, x.data.toList))) ∧ Below w.heap.size w w' := by
  rw [right2]
  have HM := Lib.hid (name_any x (w.alloc (.cells #[.int .i64 2, .string x] 41)) hs)
  go_enter Tryz.func14, Tryz.ntmps14
  go_wp2_with fail
  refine HM.out.mono ?_
  rintro e w1 ⟨rfl, rfl⟩
  go_wp2_with fail
  go_ret
  exact ⟨rfl, below_new⟩

set_option maxRecDepth 100000 in
set_option maxHeartbeats 1000000 in
theorem right_good (x : ByteArray) (w : World) (hs : x.size ≤ 9000) (h3 : Laid3 w) : Calls Tryz.prog 14 #[.agg #[.int .i64 5, .string x]] w fun e w' => e = .returned (.bool (rightB (5, x.data.toList))) ∧ Below w.heap.size w w' := by
  rw [right5]
  have HM := Lib.hid (good_any x (w.alloc (.cells #[.int .i64 5, .string x] 41)) hs (h3.alloc _).1)
  clear h3
  go_enter Tryz.func14, Tryz.ntmps14
  go_wp2_with fail
  refine HM.out.mono ?_
  rintro e w1 ⟨rfl, hb⟩
  obtain ⟨c0, c1, hB⟩ := kept_box hb
  have HB := Lib.hid hB
  clear hb hB
  go_wp2_with fail
  go_ret
  exact ⟨rfl, HB.out⟩

set_option maxRecDepth 100000 in
set_option maxHeartbeats 1000000 in
theorem right_else (k : Int) (x : ByteArray) (w : World) (k1 : (k == 1) = false) (k2 : (k == 2) = false) (k3 : (k == 3) = false) (k4 : (k == 4) = false) (k5 : (k == 5) = false) : Calls Tryz.prog 14 #[.agg #[.int .i64 k, .string x]] w fun e w' => e = .returned (.bool (rightB (k, x.data.toList))) ∧ Below w.heap.size w w' := by
  rw [right_no _ (by simpa using k1) (by simpa using k2) (by simpa using k3) (by simpa using k4) (by simpa using k5)]
  go_enter Tryz.func14, Tryz.ntmps14
  go_wp2
  go_ret
  exact ⟨rfl, below_new⟩

theorem box_next {w W W' : World} {a b : Value} (hb : Below W.heap.size W W') (h : W.cell? ⟨w.heap.size, 0, none⟩ = some a ∧ W.cell? ⟨w.heap.size, 1, none⟩ = some b ∧ Below w.heap.size w W) : W'.cell? ⟨w.heap.size, 0, none⟩ = some a ∧ W'.cell? ⟨w.heap.size, 1, none⟩ = some b ∧ Below w.heap.size w W' :=
  ⟨(hb.cell (p := ⟨w.heap.size, 0, none⟩) (lt_of_cell h.1)).trans h.1, (hb.cell (p := ⟨w.heap.size, 1, none⟩) (lt_of_cell h.2.1)).trans h.2.1, h.2.2.trans (hb.mono h.2.2.size)⟩
set_option maxRecDepth 100000 in
set_option maxHeartbeats 1000000 in
theorem right_numb (k : Int) (hk : k = 3 ∨ k = 4) (x : ByteArray) (w : World) (hs : x.size ≤ 9000) : Calls Tryz.prog 14 #[.agg #[.int .i64 k, .string x]] w fun e w' => e = .returned (.bool (rightB (k, x.data.toList))) ∧ Below w.heap.size w w' := by
  have HM := Lib.hid (fun w => numberf_any x w hs)
  obtain ⟨z, hz⟩ : ∃ z, kindL x.data.toList = z := ⟨_, rfl⟩
  obtain ⟨t, ht⟩ : ∃ t, (z == k) = t := ⟨_, rfl⟩
  have HR : Hid (rightB (k, x.data.toList) = t) := Lib.hid (by
    rcases hk with rfl | rfl
    · rw [right3, hz, ← ht]; rfl
    · rw [right4, hz, ← ht]; rfl)
  rw [hz] at HM
  clear hz
  have hS0 : (w.alloc (.cells #[.int .i64 k, .string x] 41)).cell? ⟨w.heap.size, 0, none⟩ = some (.int .i64 k) ∧ (w.alloc (.cells #[.int .i64 k, .string x] 41)).cell? ⟨w.heap.size, 1, none⟩ = some (.string x) ∧ Below w.heap.size w (w.alloc (.cells #[.int .i64 k, .string x] 41)) := kept_box (Below.refl _ _)
  have HS0 := Lib.hid hS0
  clear hS0
  rcases hk with rfl | rfl
  · go_enter Tryz.func14, Tryz.ntmps14
    go_wp2_with fail
    have hS0 := HS0.out
    go_region_held3 (fun w' => w'.cell? ⟨w.heap.size, 0, none⟩ = some (.int .i64 3) ∧ w'.cell? ⟨w.heap.size, 1, none⟩ = some (.string x) ∧ Below w.heap.size w w')
      (first
        | exact box_next (Below.drew (Below.refl _ _)) hS0
        | exact box_next (by assumption) (by assumption)
        | exact box_next (by assumption) ⟨by assumption, by assumption, by assumption⟩
        | go_keep)
      ((go_at_call 32; refine (HM.out _).mono ?_; rintro e w' ⟨rfl, hb⟩))
    all_goals (go_wp2_with fail; go_ret; exact ⟨ret_bb HR.out.symm, (And.right (And.right (by assumption : _ ∧ _ ∧ Below w.heap.size w _)))⟩)
  · go_enter Tryz.func14, Tryz.ntmps14
    go_wp2_with fail
    have hS0 := HS0.out
    go_region_held3 (fun w' => w'.cell? ⟨w.heap.size, 0, none⟩ = some (.int .i64 4) ∧ w'.cell? ⟨w.heap.size, 1, none⟩ = some (.string x) ∧ Below w.heap.size w w')
      (first
        | exact box_next (Below.drew (Below.refl _ _)) hS0
        | exact box_next (by assumption) (by assumption)
        | exact box_next (by assumption) ⟨by assumption, by assumption, by assumption⟩
        | go_keep)
      ((go_at_call 32; refine (HM.out _).mono ?_; rintro e w' ⟨rfl, hb⟩))
    all_goals (go_wp2_with fail; go_ret; exact ⟨ret_bb HR.out.symm, (And.right (And.right (by assumption : _ ∧ _ ∧ Below w.heap.size w _)))⟩)

theorem right_any (k : Int) (x : ByteArray) (w : World) (hs : x.size ≤ 9000) (h3 : Laid3 w) : Calls Tryz.prog 14 #[.agg #[.int .i64 k, .string x]] w fun e w' => e = .returned (.bool (rightB (k, x.data.toList))) ∧ Below w.heap.size w w' := by
  by_cases k1 : k = 1
  · subst k1; exact right_mark x w
  by_cases k2 : k = 2
  · subst k2; exact right_name x w hs
  by_cases k34 : k = 3 ∨ k = 4
  · exact right_numb k k34 x w hs
  by_cases k5 : k = 5
  · subst k5; exact right_good x w hs h3
  · exact right_else k x w (by simp; omega) (by simp; omega) (by simp; omega) (by simp; omega) (by simp; omega)
end Go.Proofs.YtcdcfhplkimecaaGreatDoor

/- The walk of seinelaw3.short; an argument of tokens, opened. -/
namespace Go.Proofs.YtcdcfhplkimecaaGreatDoor
open Go.RowKit

/-- What the law counts: each token's bytes and one. -/
def sumT : List (Int × ByteArray) → Nat
  | [] => 0
  | t :: ts => 1 + t.2.size + sumT ts
theorem sumT_append : ∀ a b : List (Int × ByteArray), sumT (a ++ b) = sumT a + sumT b := by
  intro a b
  induction a with
  | nil => simp [sumT]
  | cons t a ih => simp only [List.cons_append, sumT, ih]; omega
theorem sumT_take (ts : List (Int × ByteArray)) (k : Nat) : sumT (ts.take k) ≤ sumT ts := by
  have := sumT_append (ts.take k) (ts.drop k)
  rw [List.take_append_drop] at this
  omega
theorem sumT_step {ts : List (Int × ByteArray)} {k : Nat} {t : Int × ByteArray} (h : ts[k]? = some t) : sumT (ts.take (k + 1)) = sumT (ts.take k) + 1 + t.2.size := by
  rw [List.take_add_one, h, sumT_append]
  simp [sumT]
  omega
theorem sumT_mem {ts : List (Int × ByteArray)} {k : Nat} {t : Int × ByteArray} (h : ts[k]? = some t) : t.2.size + 1 ≤ sumT ts := by
  have := sumT_step h
  have := sumT_take ts (k + 1)
  omega
theorem sumT_len : ∀ ts : List (Int × ByteArray), ts.length ≤ sumT ts := by
  intro ts
  induction ts with
  | nil => simp
  | cons t ts ih => simp only [List.length_cons, sumT]; omega

end Go.Proofs.YtcdcfhplkimecaaGreatDoor
